/- Decimal texts of numbers: the mathematics. -/
import Derived.Lib.ItoaNum
set_option linter.unusedVariables false
set_option linter.unusedSimpArgs false
namespace Go.Proofs.YtaaeegjinblpiaaDoor
open Go.Lib
namespace Nt
/-- What a text of digits says. -/
def dval (l : List UInt8) : Nat := l.foldl (fun v c => v * 10 + (c.toNat - 48)) 0
theorem dval_snoc (l : List UInt8) (c : UInt8) : dval (l ++ [c]) = dval l * 10 + (c.toNat - 48) := by simp [dval]
def Digs (l : List UInt8) : Prop := ∀ c ∈ l, 48 ≤ c.toNat ∧ c.toNat ≤ 57
theorem dig_nat (u : Nat) (h : u < 10) : (UInt8.ofNat (48 + u)).toNat = 48 + u := by
  rw [UInt8.toNat_ofNat']; omega
theorem dec_big {u : Nat} (h : ¬ u < 10) : decDigits u = decDigits (u / 10) ++ [UInt8.ofNat (48 + u % 10)] := by rw [decDigits, dif_neg h]
theorem dec_val (u : Nat) : dval (decDigits u) = u := by
  induction u using Nat.strongRecOn with
  | _ u ih =>
    by_cases h : u < 10
    · rw [decDigits_one h]
      show 0 * 10 + ((UInt8.ofNat (48 + u)).toNat - 48) = u
      rw [dig_nat u h]; omega
    · rw [dec_big h, dval_snoc, ih (u / 10) (by omega), dig_nat _ (by omega)]; omega
theorem dec_digs (u : Nat) : Digs (decDigits u) := by
  induction u using Nat.strongRecOn with
  | _ u ih =>
    by_cases h : u < 10
    · rw [decDigits_one h]
      intro c hc
      rw [List.mem_singleton] at hc
      subst hc
      rw [dig_nat u h]; omega
    · rw [dec_big h]
      intro c hc
      rcases List.mem_append.1 hc with hc | hc
      · exact ih (u / 10) (by omega) c hc
      · rw [List.mem_singleton] at hc
        subst hc
        rw [dig_nat _ (by omega)]; omega
theorem dec_ne (u : Nat) : decDigits u ≠ [] := fun h => by
  have := decDigits_length u
  rw [h] at this
  have := nDigits_pos u
  simp at *; omega
theorem dec_head (u : Nat) (h0 : 0 < u) : ∀ c, (decDigits u)[0]? = some c → c.toNat ≠ 48 := by
  induction u using Nat.strongRecOn with
  | _ u ih =>
    by_cases h : u < 10
    · rw [decDigits_one h]
      intro c hc
      have e : UInt8.ofNat (48 + u) = c := Option.some.inj hc
      subst e
      rw [dig_nat u h]; omega
    · rw [dec_big h]
      intro c hc
      rw [List.getElem?_append_left (List.length_pos_iff.2 (dec_ne (u / 10)))] at hc
      exact ih (u / 10) (by omega) (by omega) c hc
/-- A block of k digits. -/
def pad (k r : Nat) : List UInt8 := List.replicate (k - nDigits r) 48 ++ decDigits r
theorem pad_zero (k : Nat) (hk : 1 ≤ k) : pad k 0 = List.replicate k 48 := by
  have h1 : nDigits 0 = 1 := nDigits_small (by omega)
  have h2 : decDigits 0 = [48] := decDigits_one (by omega)
  unfold pad
  rw [h1, h2]
  obtain ⟨j, rfl⟩ : ∃ j, k = j + 1 := ⟨k - 1, by omega⟩
  rw [Nat.add_sub_cancel, List.replicate_succ']
theorem pad_step (k r : Nat) (hk : 1 ≤ k) : pad (k + 1) r = pad k (r / 10) ++ [UInt8.ofNat (48 + r % 10)] := by
  by_cases h : r < 10
  · rw [Nat.div_eq_of_lt h, pad_zero k hk, Nat.mod_eq_of_lt h]
    unfold pad
    rw [nDigits_small h, decDigits_one h, Nat.add_sub_cancel]
  · unfold pad
    rw [nDigits_big h, dec_big h, ← List.append_assoc, Nat.add_sub_add_right]
theorem dec_block (q : Nat) (hq : 0 < q) : ∀ (k r : Nat), 1 ≤ k → r < 10 ^ k → decDigits (q * 10 ^ k + r) = decDigits q ++ pad k r
  | 0, _, h, _ => by omega
  | 1, r, _, h => by
    have h : r < 10 := by simpa using h
    rw [Nat.pow_one, dec_big (by omega), show (q * 10 + r) / 10 = q by omega, show (q * 10 + r) % 10 = r by omega]
    unfold pad
    rw [nDigits_small h, decDigits_one h]; rfl
  | k + 2, r, _, h => by
    have e : q * 10 ^ (k + 2) = q * 10 ^ (k + 1) * 10 := by rw [Nat.pow_succ 10 (k + 1), Nat.mul_assoc]
    have p : 1 ≤ 10 ^ (k + 1) := Nat.one_le_pow _ _ (by decide)
    have hm : 1 ≤ q * 10 ^ (k + 1) := Nat.mul_pos hq p
    have h' : r / 10 < 10 ^ (k + 1) := by rw [Nat.pow_succ] at h; omega
    rw [e]
    generalize hX : q * 10 ^ (k + 1) = X at *
    rw [dec_big (by omega), show (X * 10 + r) / 10 = X + r / 10 by omega, show (X * 10 + r) % 10 = r % 10 by omega, pad_step (k + 1) r (by omega), ← List.append_assoc, ← hX, dec_block q hq (k + 1) (r / 10) (by omega) h']
/-- Longer texts are greater numbers. -/
theorem len_mono (m n : Nat) (h : m ≤ n) : nDigits m ≤ nDigits n := by
  induction n using Nat.strongRecOn generalizing m with
  | _ n ih =>
    by_cases h1 : n < 10
    · rw [nDigits_small h1, nDigits_small (by omega)]; omega
    · by_cases h2 : m < 10
      · rw [nDigits_small h2]; exact nDigits_pos n
      · rw [nDigits_big h1, nDigits_big h2]
        have := ih (n / 10) (by omega) (m / 10) (by omega)
        omega
theorem len_lt (m n : Nat) (h : (decDigits m).length ≠ (decDigits n).length) : m < n ↔ (decDigits m).length < (decDigits n).length := by
  rw [decDigits_length, decDigits_length] at *
  constructor
  · intro hl; have := len_mono m n (by omega); omega
  · intro hl
    rcases Nat.lt_or_ge m n with h1 | h1
    · exact h1
    · have := len_mono n m h1; omega
theorem lt_snoc {l m : List UInt8} (c d : UInt8) (hL : l.length = m.length) : l ++ [c] < m ++ [d] ↔ l < m ∨ l = m ∧ c < d := by
  induction l generalizing m with
  | nil =>
    have : m = [] := List.length_eq_zero_iff.1 hL.symm
    subst this
    simp [List.cons_lt_cons_iff]
  | cons a l ih =>
    cases m with
    | nil => simp at hL
    | cons b m =>
      have h' : l.length = m.length := by simpa using hL
      clear hL
      simp only [List.cons_append, List.cons_lt_cons_iff, ih h', List.cons.injEq]
      constructor
      · rintro (h | ⟨rfl, h | ⟨rfl, h⟩⟩)
        · exact Or.inl (Or.inl h)
        · exact Or.inl (Or.inr ⟨rfl, h⟩)
        · exact Or.inr ⟨⟨rfl, rfl⟩, h⟩
      · rintro ((h | ⟨rfl, h⟩) | ⟨⟨rfl, rfl⟩, h⟩)
        · exact Or.inl h
        · exact Or.inr ⟨rfl, Or.inl h⟩
        · exact Or.inr ⟨rfl, Or.inr ⟨rfl, h⟩⟩
theorem dig_lt (u v : Nat) (hu : u < 10) (hv : v < 10) : UInt8.ofNat (48 + u) < UInt8.ofNat (48 + v) ↔ u < v := by
  rw [UInt8.lt_iff_toNat_lt, dig_nat u hu, dig_nat v hv]; omega
theorem dec_inj {m n : Nat} (h : decDigits m = decDigits n) : m = n := by rw [← dec_val m, h, dec_val]
theorem dec_lt (m : Nat) : ∀ n, (decDigits m).length = (decDigits n).length → (decDigits m < decDigits n ↔ m < n) := by
  induction m using Nat.strongRecOn with
  | _ m ih =>
    intro n hl
    rw [decDigits_length, decDigits_length] at hl
    by_cases h1 : m < 10
    · have h2 : n < 10 := by
        by_cases h2 : n < 10
        · exact h2
        · rw [nDigits_small h1, nDigits_big h2] at hl
          have := nDigits_pos (n / 10); omega
      rw [decDigits_one h1, decDigits_one h2, List.cons_lt_cons_iff, dig_lt m n h1 h2]
      simp
    · have h2 : ¬ n < 10 := fun h2 => by
        rw [nDigits_small h2, nDigits_big h1] at hl
        have := nDigits_pos (m / 10); omega
      rw [nDigits_big h1, nDigits_big h2] at hl
      have hl' : (decDigits (m / 10)).length = (decDigits (n / 10)).length := by rw [decDigits_length, decDigits_length]; omega
      rw [dec_big h1, dec_big h2, lt_snoc _ _ hl', ih (m / 10) (by omega) (n / 10) hl', dig_lt _ _ (by omega) (by omega)]
      constructor
      · rintro (h | ⟨h, h'⟩)
        · omega
        · have := dec_inj h; omega
      · intro h
        by_cases h3 : m / 10 < n / 10
        · exact Or.inl h3
        · have h4 : m / 10 = n / 10 := by omega
          exact Or.inr ⟨by rw [h4], by omega⟩
end Nt
end Go.Proofs.YtaaeegjinblpiaaDoor
