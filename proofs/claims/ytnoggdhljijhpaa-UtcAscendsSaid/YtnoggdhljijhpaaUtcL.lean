/- Mathematics of tables of leap seconds. -/
import Derived.Test.YtnoggdhljijhpaaUtcM
set_option linter.unusedVariables false
set_option linter.unusedSimpArgs false
namespace Go.Proofs.Ytnoggdhljijhpaa
namespace Utc
/-- A valid table of leap seconds. -/
structure VT (L : List Int) : Prop where
  len : L.length ≤ 64
  val : ∀ i : Nat, i < L.length → L.getD i 0 ≤ 9007199254 ∧ (L.getD i 0 - i) % 86400 = 0 ∧ 86400 ≤ L.getD i 0 - i
  asc : ∀ i j : Nat, i < j → j < L.length → L.getD i 0 - i + 86400 ≤ L.getD j 0 - j
/-- How many leap seconds are less than a second. -/
def off (L : List Int) (s : Int) : Nat := (L.takeWhile fun x => decide (x < s)).length
theorem off_le (L : List Int) (s : Int) : off L s ≤ L.length := (List.takeWhile_prefix _).length_le
theorem off_cons (a : Int) (L : List Int) (s : Int) : off (a :: L) s = if a < s then off L s + 1 else 0 := by
  unfold off
  rw [List.takeWhile_cons]
  by_cases h : a < s <;> simp [h]
theorem off_below (L : List Int) (s : Int) : ∀ k, k < off L s → L.getD k 0 < s := by
  induction L with
  | nil => intro k hk; simp [off] at hk
  | cons a L ih =>
    intro k hk
    rw [off_cons] at hk
    by_cases h : a < s
    · rw [if_pos h] at hk
      cases k with
      | zero => exact h
      | succ k => simpa using ih k (by omega)
    · rw [if_neg h] at hk; omega
theorem off_at (L : List Int) (s : Int) (h : off L s < L.length) : s ≤ L.getD (off L s) 0 := by
  induction L with
  | nil => simp at h
  | cons a L ih =>
    rw [off_cons] at h ⊢
    by_cases ha : a < s
    · rw [if_pos ha] at h ⊢
      simpa using ih (by simpa using h)
    · rw [if_neg ha]; simp; omega
theorem VT.lt {L : List Int} (h : VT L) {i j : Nat} (hij : i < j) (hj : j < L.length) : L.getD i 0 + 86401 ≤ L.getD j 0 := by
  have := h.asc i j hij hj; omega
theorem VT.le {L : List Int} (h : VT L) {i j : Nat} (hij : i ≤ j) (hj : j < L.length) : L.getD i 0 - i ≤ L.getD j 0 - j := by
  by_cases e : i = j
  · subst e; exact Int.le_refl _
  · have := h.asc i j (by omega) hj; omega
theorem VT.big {L : List Int} (h : VT L) : ∀ i : Nat, i < L.length → 86400 * ((i : Int) + 1) ≤ L.getD i 0 - i
  | 0, hi => by have := (h.val 0 hi).2.2; simp at *; omega
  | i + 1, hi => by
    have a := VT.big h i (by omega)
    have b := h.asc i (i + 1) (by omega) hi
    push_cast at *
    omega
theorem off_above {L : List Int} (h : VT L) (s : Int) (k : Nat) (hk : off L s ≤ k) (hn : k < L.length) : s ≤ L.getD k 0 := by
  have a := off_at L s (by omega)
  by_cases e : off L s = k
  · subst e; exact a
  · have := h.lt (i := off L s) (j := k) (by omega) hn; omega
/-- The number with these two marks is off. -/
theorem off_is {L : List Int} (s : Int) (r : Nat) (hr : r ≤ L.length) (h1 : ∀ k, k < r → L.getD k 0 < s) (h2 : r < L.length → s ≤ L.getD r 0) : off L s = r := by
  rcases Nat.lt_trichotomy (off L s) r with h | h | h
  · have a := off_at L s (by omega); have b := h1 _ h; omega
  · exact h
  · have a := off_below L s r h; have b := h2 (by have := off_le L s; omega); omega
/-- Is the second a leap second? -/
def isL (L : List Int) (s : Int) : Bool := decide (off L s < L.length ∧ L.getD (off L s) 0 = s)
/-- The civil second that a second has, or that is ahead of it in a leap second. -/
def cb (L : List Int) (s : Int) : Int := if isL L s then s - off L s - 1 else s - off L s
def cs (L : List Int) (s : Int) : Int := if isL L s then 60 else cb L s % 86400 % 60
theorem cb_in {L : List Int} (h : VT L) (s : Int) (s0 : 0 ≤ s) (s9 : s ≤ 9007199254) : 0 ≤ cb L s ∧ cb L s ≤ 9007199254 ∧ (isL L s = true → cb L s % 86400 = 86399) ∧ (off L s : Int) ≤ s ∧ off L s ≤ 64 := by
  have hl := off_le L s
  have hlen := h.len
  have hb : 86400 * (off L s : Int) ≤ s - off L s ∨ off L s = 0 := by
    by_cases e : off L s = 0
    · exact .inr e
    · left
      have a := off_below L s (off L s - 1) (by omega)
      have b := h.big (off L s - 1) (by omega)
      omega
  have c : isL L s = true → (s - off L s) % 86400 = 0 ∧ 86400 ≤ s - off L s := by
    intro hi
    unfold isL at hi
    obtain ⟨h1, h2⟩ := of_decide_eq_true hi
    have := h.val _ h1
    rw [h2] at this
    exact ⟨this.2.1, this.2.2⟩
  unfold cb
  cases hi : isL L s with
  | true =>
    obtain ⟨c1, c2⟩ := c hi
    simp
    omega
  | false =>
    simp
    omega
end Utc
end Go.Proofs.Ytnoggdhljijhpaa
