/- The mathematics of filters: sums of taps, outputs. -/
import Derived.WalkKit
import Derived.Lib.Hide
set_option linter.unusedVariables false
namespace Go.Proofs.Ytkoojgmfnelaiaa
namespace Fil
/-- The sum of the absolute values of the first k taps. -/
def absum (T : Nat → Int) : Nat → Int
  | 0 => 0
  | k + 1 => absum T k + max (T k) (-T k)
theorem absum_nn (T : Nat → Int) : ∀ k, 0 ≤ absum T k := by
  intro k
  induction k with
  | zero => exact Int.le_refl _
  | succ k ih => unfold absum; omega
theorem absum_le (T : Nat → Int) : ∀ k n, k ≤ n → absum T k ≤ absum T n := by
  intro k n h
  induction n with
  | zero => obtain rfl : k = 0 := by omega
            exact Int.le_refl _
  | succ n ih =>
    by_cases hk : k ≤ n
    · have := ih hk
      have e : absum T (n + 1) = absum T n + max (T n) (-T n) := rfl
      omega
    · obtain rfl : k = n + 1 := by omega
      exact Int.le_refl _
theorem absum_tap (T : Nat → Int) (k n : Nat) (h : k < n) : T k ≤ absum T n ∧ -T k ≤ absum T n := by
  have h1 := absum_le T (k + 1) n h
  have h2 := absum_nn T k
  have e : absum T (k + 1) = absum T k + max (T k) (-T k) := rfl
  omega
theorem absum_congr (T U : Nat → Int) : ∀ n, (∀ j, j < n → T j = U j) → absum T n = absum U n := by
  intro n
  induction n with
  | zero => intro _; rfl
  | succ n ih => intro h; have := ih (fun j hj => h j (by omega)); have := h n (by omega); unfold absum; omega
/-- The sum of the first k products at the sample i. -/
def dot (T X : Nat → Int) (i : Nat) : Nat → Int
  | 0 => 0
  | k + 1 => dot T X i k + T k * X (i - k)
theorem prod_bd (a x m : Int) (h1 : -m ≤ x) (h2 : x ≤ m) : -(max a (-a) * m) ≤ a * x ∧ a * x ≤ max a (-a) * m := by
  by_cases ha : 0 ≤ a
  · rw [show max a (-a) = a by omega]
    have p := Int.mul_le_mul_of_nonneg_left h1 ha
    have q := Int.mul_le_mul_of_nonneg_left h2 ha
    rw [Int.mul_neg] at p
    omega
  · rw [show max a (-a) = -a by omega]
    have p := Int.mul_le_mul_of_nonneg_left h1 (show 0 ≤ -a by omega)
    have q := Int.mul_le_mul_of_nonneg_left h2 (show 0 ≤ -a by omega)
    rw [Int.mul_neg] at p
    rw [Int.neg_mul] at p q ⊢
    rw [Int.neg_mul] at p q
    omega
theorem dot_bd (T X : Nat → Int) (i : Nat) (m : Int) : ∀ k, (∀ j, j < k → -m ≤ X (i - j) ∧ X (i - j) ≤ m) → -(absum T k * m) ≤ dot T X i k ∧ dot T X i k ≤ absum T k * m := by
  intro k
  induction k with
  | zero => intro _; simp [dot, absum]
  | succ k ih =>
    intro h
    have a := ih (fun j hj => h j (by omega))
    have b := prod_bd (T k) (X (i - k)) m (h k (by omega)).1 (h k (by omega)).2
    unfold dot absum
    rw [Int.add_mul]
    omega
theorem dot_congr (T U X Y : Nat → Int) (i i' : Nat) : ∀ k, (∀ j, j < k → T j = U j ∧ X (i - j) = Y (i' - j)) → dot T X i k = dot U Y i' k := by
  intro k
  induction k with
  | zero => intro _; rfl
  | succ k ih => intro h; unfold dot; rw [ih (fun j hj => h j (by omega)), (h k (by omega)).1, (h k (by omega)).2]
/-- Which samples give an output. -/
def keep (n : Nat) (fac num : Int) (i : Nat) : Bool := decide (n - 1 ≤ i) && decide ((num + i) % fac = 0)
/-- The outputs before the sample k. -/
def outs (T X : Nat → Int) (n s : Nat) (fac num : Int) (k : Nat) : List Int := ((List.range k).filter (keep n fac num)).map fun i => dot T X i n / 2 ^ s
theorem outs_yes (T X : Nat → Int) (n s : Nat) (fac num : Int) (k : Nat) (h1 : n - 1 ≤ k) (h2 : (num + k) % fac = 0) : outs T X n s fac num (k + 1) = outs T X n s fac num k ++ [dot T X k n / 2 ^ s] := by
  have : keep n fac num k = true := by unfold keep; rw [decide_eq_true h1, decide_eq_true h2]; rfl
  simp [outs, List.range_succ, this]
theorem outs_no (T X : Nat → Int) (n s : Nat) (fac num : Int) (k : Nat) (h2 : ¬ (num + k) % fac = 0) : outs T X n s fac num (k + 1) = outs T X n s fac num k := by
  have : keep n fac num k = false := by unfold keep; rw [decide_eq_false h2]; simp
  simp [outs, List.range_succ, this]
theorem outs_zero (T X : Nat → Int) (n s : Nat) (fac num : Int) : ∀ k, k ≤ n - 1 → outs T X n s fac num k = [] := by
  intro k
  induction k with
  | zero => intro _; rfl
  | succ k ih =>
    intro h
    have : keep n fac num k = false := by unfold keep; rw [decide_eq_false (by omega)]; rfl
    have e : outs T X n s fac num (k + 1) = outs T X n s fac num k := by simp [outs, List.range_succ, this]
    rw [e]; exact ih (by omega)
theorem outs_len (T X : Nat → Int) (n s : Nat) (fac num : Int) (k : Nat) : (outs T X n s fac num k).length ≤ k := by
  unfold outs; rw [List.length_map]; exact Nat.le_trans (List.length_filter_le _ _) (by simp)
/-- All outputs, if none is left out. -/
theorem outs_one (T X : Nat → Int) (n s : Nat) (num : Int) : ∀ k, n - 1 ≤ k → outs T X n s 1 num k = (List.range (k - (n - 1))).map fun i => dot T X (n - 1 + i) n / 2 ^ s := by
  intro k
  induction k with
  | zero => intro h; have : n - 1 = 0 := by omega
            simp [outs]
  | succ k ih =>
    intro h
    by_cases hk : n - 1 ≤ k
    · rw [outs_yes T X n s 1 num k hk (by omega), ih hk, show k + 1 - (n - 1) = (k - (n - 1)) + 1 by omega, List.range_succ, List.map_append]
      rw [show [k - (n - 1)].map (fun i => dot T X (n - 1 + i) n / 2 ^ s) = [dot T X (n - 1 + (k - (n - 1))) n / 2 ^ s] from rfl]
      rw [show n - 1 + (k - (n - 1)) = k by omega]
    · rw [outs_zero T X n s 1 num (k + 1) (by omega), show k + 1 - (n - 1) = 0 by omega]; rfl
theorem outs_one_len (T X : Nat → Int) (n s : Nat) (num : Int) (k : Nat) (h : n - 1 ≤ k) : (outs T X n s 1 num k).length = k - (n - 1) := by
  rw [outs_one T X n s num k h]; simp
theorem outs_one_at (T X : Nat → Int) (n s : Nat) (num : Int) (k i : Nat) (h : n - 1 ≤ k) (hi : i < k - (n - 1)) : (outs T X n s 1 num k).getD i 0 = dot T X (n - 1 + i) n / 2 ^ s := by
  rw [outs_one T X n s num k h]
  simp [List.getD_eq_getElem?_getD, hi]
theorem pow_bd30 (s : Nat) (h : s ≤ 30) : (1 : Int) ≤ 2 ^ s ∧ (2 : Int) ^ s ≤ 1073741824 := by
  have h1 : (2 : Nat) ^ s ≤ 2 ^ 30 := Nat.pow_le_pow_right (by decide) h
  have h0 : 1 ≤ (2 : Nat) ^ s := Nat.one_le_two_pow
  have e : ((2 ^ s : Nat) : Int) = (2 : Int) ^ s := by rw [Int.natCast_pow]; rfl
  have e30 : (2 : Nat) ^ 30 = 1073741824 := by decide
  omega
/-- A good filter. -/
structure FG (n : Nat) (T : Nat → Int) (fac : Int) (s : Nat) : Prop where
  n1 : 1 ≤ n
  n2 : n ≤ 128
  s2 : s ≤ 30
  f1 : 1 ≤ fac
  f2 : fac ≤ 64
  sum : absum T n ≤ 2 ^ s
theorem FG.fac {n : Nat} {T : Nat → Int} {fac : Int} {s : Nat} (h : FG n T fac s) (f : Int) (f1 : 1 ≤ f) (f2 : f ≤ 64) : FG n T f s := ⟨h.n1, h.n2, h.s2, f1, f2, h.sum⟩
theorem FG.out {n : Nat} {T : Nat → Int} {fac : Int} {s : Nat} (h : FG n T fac s) (X : Nat → Int) (i : Nat) (hX : ∀ j, j < n → -1073741823 ≤ X (i - j) ∧ X (i - j) ≤ 1073741823) : -1073741823 ≤ dot T X i n / 2 ^ s ∧ dot T X i n / 2 ^ s ≤ 1073741823 := by
  have a := dot_bd T X i 1073741823 n hX
  have p := pow_bd30 s h.s2
  have b := Int.mul_le_mul_of_nonneg_right h.sum (show (0 : Int) ≤ 1073741823 by decide)
  constructor
  · refine (Int.le_ediv_iff_mul_le (by omega)).2 ?_
    rw [Int.neg_mul, Int.mul_comm]; omega
  · refine Int.ediv_le_of_le_mul (by omega) ?_
    rw [Int.mul_comm]; omega
end Fil
end Go.Proofs.Ytkoojgmfnelaiaa
