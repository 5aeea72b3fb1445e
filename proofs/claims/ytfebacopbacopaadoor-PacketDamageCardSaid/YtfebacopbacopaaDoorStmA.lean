/- Differences, words and their packing: mathematics. -/
import Derived.Test.YtfebacopbacopaaDoorMath
set_option linter.unusedVariables false
set_option linter.unusedSimpArgs false
namespace Go.Proofs.YtfebacopbacopaaDoor
open Go.RowKit
namespace St
/-- The differences behind a first sample p. -/
def dfr (p : Int) : List Int → List Int
  | [] => []
  | x :: l => (x - p) :: dfr x l
def df : List Int → List Int
  | [] => []
  | x :: l => 0 :: dfr x l
theorem dfr_length (p : Int) (l : List Int) : (dfr p l).length = l.length := by
  induction l generalizing p with
  | nil => rfl
  | cons x l ih => simp [dfr, ih]
theorem df_length (l : List Int) : (df l).length = l.length := by
  cases l with
  | nil => rfl
  | cons x l => simp [df, dfr_length]
theorem dfr_get (p : Int) (l : List Int) (k : Nat) (hk : k < l.length) : (dfr p l)[k]? = some (l.getD k 0 - (if k = 0 then p else l.getD (k - 1) 0)) := by
  induction l generalizing p k with
  | nil => simp at hk
  | cons x l ih =>
    cases k with
    | zero => simp [dfr]
    | succ k =>
      have := ih x k (by simpa using hk)
      simp only [dfr, List.getElem?_cons_succ, this, List.getD_cons_succ]
      cases k with
      | zero => simp
      | succ k => simp
theorem df_get (l : List Int) (k : Nat) (hk : k < l.length) : (df l)[k]? = some (if k = 0 then 0 else l.getD k 0 - l.getD (k - 1) 0) := by
  cases l with
  | nil => simp at hk
  | cons x l =>
    cases k with
    | zero => simp [df]
    | succ k =>
      have := dfr_get x l k (by simpa using hk)
      simp only [df, List.getElem?_cons_succ, this]
      cases k with
      | zero => simp
      | succ k => simp
/-- A difference fits. -/
def In (p n : Int) : Prop := -p ≤ n ∧ n < p
instance (p n : Int) : Decidable (In p n) := by unfold In; infer_instance
def Fit (d : List Int) (c : Nat) (p : Int) : Prop := c ≤ d.length ∧ ∀ n ∈ d.take c, In p n
instance (d : List Int) (c : Nat) (p : Int) : Decidable (Fit d c p) := by unfold Fit; infer_instance
/-- The code of the first word. -/
def cd (d : List Int) : Nat := if Fit d 4 128 then 1 else if Fit d 2 32768 then 2 else 3
def cnt : Nat → Nat
  | 1 => 4
  | 2 => 2
  | 3 => 1
  | _ => 0
def wid : Nat → Nat
  | 1 => 8
  | 2 => 16
  | 3 => 32
  | _ => 0
theorem cd_rng (d : List Int) : 1 ≤ cd d ∧ cd d ≤ 3 := by unfold cd; split <;> (try split) <;> omega
theorem cd_cases (d : List Int) : cd d = 1 ∨ cd d = 2 ∨ cd d = 3 := by have := cd_rng d; omega
theorem cnt_rng (d : List Int) : 1 ≤ cnt (cd d) ∧ cnt (cd d) ≤ 4 := by rcases cd_cases d with h | h | h <;> rw [h] <;> decide
theorem cd_len (d : List Int) (h : d ≠ []) : cnt (cd d) ≤ d.length := by
  have hl : 1 ≤ d.length := by cases d with
    | nil => exact absurd rfl h
    | cons => simp
  by_cases h1 : Fit d 4 128
  · have : cd d = 1 := by unfold cd; rw [if_pos h1]
    rw [this]; exact h1.1
  · by_cases h2 : Fit d 2 32768
    · have : cd d = 2 := by unfold cd; rw [if_neg h1, if_pos h2]
      rw [this]; exact h2.1
    · have : cd d = 3 := by unfold cd; rw [if_neg h1, if_neg h2]
      rw [this]; exact hl
/-- All differences that a word takes fit. -/
theorem cd_fits (d : List Int) (h : d ≠ []) (hd : ∀ n ∈ d, In 2147483648 n) : ∀ n ∈ d.take (cnt (cd d)), In (2 ^ (wid (cd d) - 1)) n := by
  by_cases h1 : Fit d 4 128
  · have : cd d = 1 := by unfold cd; rw [if_pos h1]
    rw [this]; exact h1.2
  · by_cases h2 : Fit d 2 32768
    · have : cd d = 2 := by unfold cd; rw [if_neg h1, if_pos h2]
      rw [this]; exact h2.2
    · have : cd d = 3 := by unfold cd; rw [if_neg h1, if_neg h2]
      rw [this]
      intro n hn
      exact hd n (List.mem_of_mem_take hn)
/-- The value of a word. -/
def pk (w : Nat) (l : List Int) : Int := l.foldl (fun v n => v * 2 ^ w + n % 2 ^ w) 0
theorem pk_snoc (w : Nat) (l : List Int) (n : Int) : pk w (l ++ [n]) = pk w l * 2 ^ w + n % 2 ^ w := by simp [pk]
theorem pk_rng (w : Nat) (l : List Int) : 0 ≤ pk w l ∧ pk w l < 2 ^ (w * l.length) := by
  have key : ∀ (m : List Int), 0 ≤ pk w m.reverse ∧ pk w m.reverse < 2 ^ (w * m.length) := by
    intro m
    induction m with
    | nil => simp [pk]
    | cons n m ih =>
      rw [List.reverse_cons, pk_snoc, List.length_cons]
      have hp : (0 : Int) < 2 ^ w := Int.pow_pos (by decide)
      have a0 := Int.emod_nonneg n (b := 2 ^ w) (by omega)
      have a1 := Int.emod_lt_of_pos n hp
      have b0 := Int.mul_nonneg ih.1 (Int.le_of_lt hp)
      have e : (2 : Int) ^ (w * (m.length + 1)) = 2 ^ (w * m.length) * 2 ^ w := by rw [← Int.pow_add]; rfl
      rw [e]
      have c : (pk w m.reverse + 1) * 2 ^ w ≤ 2 ^ (w * m.length) * 2 ^ w := Int.mul_le_mul_of_nonneg_right (by omega) (Int.le_of_lt hp)
      have c2 : (pk w m.reverse + 1) * 2 ^ w = pk w m.reverse * 2 ^ w + 2 ^ w := by rw [Int.add_mul, Int.one_mul]
      omega
  have h := key l.reverse
  rw [List.reverse_reverse, List.length_reverse] at h
  exact h
/-- The differences in a word, the last one first: c of them. -/
def unr (w : Nat) (v : Int) : Nat → List Int
  | 0 => []
  | c + 1 => unr w (v / 2 ^ w) c ++ [Ma.sg (v % 2 ^ w) (2 ^ (w - 1)) (2 ^ w)]
theorem unr_length (w : Nat) (c : Nat) : ∀ v, (unr w v c).length = c := by
  induction c with
  | zero => intro v; rfl
  | succ c ih => intro v; simp [unr, ih]
theorem unr_pk (w : Nat) (hw : 1 ≤ w) : ∀ (m : List Int), (∀ n ∈ m, In (2 ^ (w - 1)) n) → unr w (pk w m.reverse) m.length = m.reverse
  | [], _ => rfl
  | n :: m, h => by
    have ih := unr_pk w hw m fun x hx => h x (by simp [hx])
    have hn := h n (by simp)
    have hp : (0 : Int) < 2 ^ w := Int.pow_pos (by decide)
    have a0 := Int.emod_nonneg n (b := 2 ^ w) (by omega)
    have a1 := Int.emod_lt_of_pos n hp
    have e2 : (2 : Int) ^ w = 2 * 2 ^ (w - 1) := Ma.pow_half w hw
    rw [List.reverse_cons, pk_snoc, List.length_cons, unr]
    have d1 : (pk w m.reverse * 2 ^ w + n % 2 ^ w) / 2 ^ w = pk w m.reverse := by
      rw [Int.add_comm, Int.add_mul_ediv_right _ _ (by omega), Int.ediv_eq_zero_of_lt a0 a1]; omega
    have d2 : (pk w m.reverse * 2 ^ w + n % 2 ^ w) % 2 ^ w = n % 2 ^ w := by
      rw [Int.add_comm, Int.add_mul_emod_self_right]; exact Int.emod_eq_of_lt a0 a1
    rw [d1, d2, ih, Ma.sg_mod n _ _ e2 hn.1 hn.2]
/-- The differences of a word with a code. -/
def un (p : Nat × Int) : List Int := unr (wid p.1) p.2 (cnt p.1)
theorem un_none (v : Int) : un (0, v) = [] := rfl
def w1 (d : List Int) : Nat × Int := (cd d, pk (wid (cd d)) (d.take (cnt (cd d))))
theorem un_w1 (d : List Int) (h : d ≠ []) (hd : ∀ n ∈ d, In 2147483648 n) : un (w1 d) = d.take (cnt (cd d)) := by
  have hf := cd_fits d h hd
  have hl : (d.take (cnt (cd d))).length = cnt (cd d) := by rw [List.length_take]; have := cd_len d h; omega
  have hw : 1 ≤ wid (cd d) := by rcases cd_cases d with h | h | h <;> rw [h] <;> decide
  have k := unr_pk (wid (cd d)) hw (d.take (cnt (cd d))).reverse (fun n hn => hf n (by simpa using hn))
  rw [List.reverse_reverse, List.length_reverse, hl] at k
  exact k
/-- The words of differences. -/
def wdf : Nat → List Int → List (Nat × Int)
  | 0, _ => []
  | _ + 1, [] => []
  | f + 1, x :: l => w1 (x :: l) :: wdf f ((x :: l).drop (cnt (cd (x :: l))))
def wds (d : List Int) : List (Nat × Int) := wdf d.length d
theorem wdf_fuel : ∀ (f g : Nat) (d : List Int), d.length ≤ f → d.length ≤ g → wdf f d = wdf g d
  | 0, 0, _, _, _ => rfl
  | 0, g + 1, d, h, _ => by
    have : d = [] := List.eq_nil_of_length_eq_zero (by omega)
    subst this; rfl
  | f + 1, 0, d, _, h => by
    have : d = [] := List.eq_nil_of_length_eq_zero (by omega)
    subst this; rfl
  | f + 1, g + 1, [], _, _ => rfl
  | f + 1, g + 1, x :: l, h1, h2 => by
    have c := (cnt_rng (x :: l)).1
    simp only [wdf]
    rw [wdf_fuel f g _ (by rw [List.length_drop]; omega) (by rw [List.length_drop]; omega)]
theorem wds_nil : wds [] = [] := rfl
theorem wds_step (d : List Int) (h : d ≠ []) : wds d = w1 d :: wds (d.drop (cnt (cd d))) := by
  cases d with
  | nil => exact absurd rfl h
  | cons x l =>
    have c := (cnt_rng (x :: l)).1
    show wdf (l.length + 1) (x :: l) = _
    simp only [wdf]
    congr 1
    exact wdf_fuel _ _ _ (by rw [List.length_drop, List.length_cons]; omega) (Nat.le_refl _)
theorem strong {P : List Int → Prop} (h0 : P []) (hs : ∀ d, d ≠ [] → P (d.drop (cnt (cd d))) → P d) : ∀ d, P d := by
  intro d
  induction hn : d.length using Nat.strongRecOn generalizing d with
  | _ n ih =>
    cases d with
    | nil => exact h0
    | cons x l =>
      have c := (cnt_rng (x :: l)).1
      exact hs _ (by simp) (ih _ (by rw [List.length_drop]; simp at hn ⊢; omega) _ rfl)
theorem un_wds : ∀ d : List Int, (∀ n ∈ d, In 2147483648 n) → (wds d).flatMap un = d :=
  strong (fun _ => rfl) fun d h ih hd => by
    rw [wds_step d h, List.flatMap_cons, un_w1 d h hd, ih fun n hn => hd n (List.mem_of_mem_drop hn), List.take_append_drop]
theorem wds_len : ∀ d : List Int, (wds d).length ≤ d.length ∧ d.length ≤ 4 * (wds d).length :=
  strong ⟨Nat.le_refl _, Nat.le_refl _⟩ fun d h ih => by
    have c := cnt_rng d
    have l := cd_len d h
    rw [List.length_drop] at ih
    rw [wds_step d h, List.length_cons]
    omega
/-- Codes and values of words. -/
def WOk (p : Nat × Int) : Prop := p.1 ≤ 3 ∧ 0 ≤ p.2 ∧ p.2 ≤ 4294967295
theorem w1_ok (d : List Int) (h : d ≠ []) : WOk (w1 d) := by
  refine ⟨(cd_rng d).2, (pk_rng _ _).1, ?_⟩
  have k := (pk_rng (wid (cd d)) (d.take (cnt (cd d)))).2
  have hl : (d.take (cnt (cd d))).length = cnt (cd d) := by rw [List.length_take]; have := cd_len d h; omega
  have e : wid (cd d) * cnt (cd d) = 32 := by rcases cd_cases d with h | h | h <;> rw [h] <;> rfl
  rw [hl, e] at k
  show pk _ _ ≤ _
  have : (2 : Int) ^ 32 = 4294967296 := by decide
  omega
theorem wds_ok : ∀ d : List Int, ∀ p ∈ wds d, WOk p :=
  strong (fun p hp => by rw [wds_nil] at hp; cases hp) fun d h ih p hp => by
    rw [wds_step d h] at hp
    rcases List.mem_cons.1 hp with rfl | hp
    · exact w1_ok d h
    · exact ih p hp
/-- The differences of samples in range. -/
def InS (l : List Int) : Prop := ∀ x ∈ l, -1073741823 ≤ x ∧ x ≤ 1073741823
theorem dfr_in (p : Int) (l : List Int) (hp : -1073741823 ≤ p ∧ p ≤ 1073741823) (h : InS l) : ∀ n ∈ dfr p l, In 2147483648 n := by
  induction l generalizing p with
  | nil => intro n hn; cases hn
  | cons x l ih =>
    intro n hn
    have hx := h x (by simp)
    rcases List.mem_cons.1 hn with rfl | hn
    · unfold In; omega
    · exact ih x hx (fun y hy => h y (by simp [hy])) n hn
theorem df_in (l : List Int) (h : InS l) : ∀ n ∈ df l, In 2147483648 n := by
  cases l with
  | nil => intro n hn; cases hn
  | cons x l =>
    intro n hn
    rcases List.mem_cons.1 hn with rfl | hn
    · unfold In; omega
    · exact dfr_in x l (h x (by simp)) (fun y hy => h y (by simp [hy])) n hn
/-- Samples from a first one and differences. -/
def sums (p : Int) : List Int → List Int
  | [] => []
  | n :: l => (p + n) :: sums (p + n) l
theorem sums_dfr (p : Int) (l : List Int) : sums p (dfr p l) = l := by
  induction l generalizing p with
  | nil => rfl
  | cons x l ih =>
    simp only [dfr, sums]
    rw [show p + (x - p) = x by omega, ih]
end St
end Go.Proofs.YtfebacopbacopaaDoor
