/- The mathematics of corrected times: bounds of elapsed times, intervals, runs. -/
import Derived.Test.YtdcjpjdkamlheaaClock
namespace Go.Proofs.Ytdcjpjdkamlheaa
open Go.RowKit Wi Dice
namespace Clock
namespace CM
theorem lo_eq (x d : Int) (x0 : 0 ≤ x) : loE x d = d * 1000000 / (1000000 + x) := by
  unfold loE
  have h := Int.mul_ediv_add_emod d (1000000 + x)
  have hf : 1000000 + x ≠ 0 := by omega
  generalize 1000000 + x = f at *
  have e : d * 1000000 = d % f * 1000000 + f * (d / f * 1000000) := by
    rw [← Int.mul_assoc]; generalize f * (d / f) = t at *; omega
  rw [e, Int.add_mul_ediv_left _ _ hf]
  omega
theorem hi_eq (x d : Int) (x1 : x ≤ 500000) : hiE x d = (d * 1000000 + (1000000 - x) - 1) / (1000000 - x) := by
  unfold hiE
  have h := Int.mul_ediv_add_emod d (1000000 - x)
  have hf0 : 500000 ≤ 1000000 - x := by omega
  generalize 1000000 - x = f at *
  have hf : f ≠ 0 := by omega
  have e : d * 1000000 + f - 1 = (d % f * 1000000 + f - 1) + f * (d / f * 1000000) := by
    rw [← Int.mul_assoc]; generalize f * (d / f) = t at *; omega
  rw [e, Int.add_mul_ediv_left _ _ hf]
  omega
/-- The least time. -/
structure Lo (x y r : Int) : Prop where
  nn : 0 ≤ r
  le : r * (1000000 + x) ≤ y * 1000000
  gt : y * 1000000 < (r + 1) * (1000000 + x)
structure Hi (x y r : Int) : Prop where
  nn : 0 ≤ r
  ge : y * 1000000 ≤ r * (1000000 - x)
  lt : (r - 1) * (1000000 - x) < y * 1000000
theorem lo_of (x y : Int) (x0 : 0 ≤ x) (y0 : 0 ≤ y) : Lo x y (loE x y) := by
  rw [lo_eq x y x0]
  have hf : 0 < 1000000 + x := by omega
  refine ⟨Int.ediv_nonneg (by omega) (by omega), Int.ediv_mul_le _ (by omega), ?_⟩
  have := Int.lt_mul_ediv_self_add (x := y * 1000000) hf
  rw [Int.add_mul, Int.one_mul, Int.mul_comm (y * 1000000 / (1000000 + x))]; exact this
theorem ceil_of (A f : Int) (hf : 0 < f) (hA : 0 ≤ A) : 0 ≤ (A + f - 1) / f ∧ A ≤ (A + f - 1) / f * f ∧ ((A + f - 1) / f - 1) * f < A := by
  have a := Int.mul_ediv_add_emod (A + f - 1) f
  have b := Int.emod_nonneg (A + f - 1) (show f ≠ 0 by omega)
  have c := Int.emod_lt_of_pos (A + f - 1) hf
  rw [Int.mul_comm] at a
  refine ⟨Int.ediv_nonneg (by omega) (by omega), by omega, ?_⟩
  rw [Int.sub_mul, Int.one_mul]; omega
theorem hi_of (x y : Int) (_x0 : 0 ≤ x) (x1 : x ≤ 500000) (y0 : 0 ≤ y) : Hi x y (hiE x y) := by
  rw [hi_eq x y x1]
  obtain ⟨a, b, c⟩ := ceil_of (y * 1000000) (1000000 - x) (by omega) (by omega)
  exact ⟨a, b, c⟩
theorem lt_of_mul {a b f : Int} (hf : 0 < f) (h : a * f < b * f) : a < b := Int.lt_of_mul_lt_mul_right h (Int.le_of_lt hf)
theorem lo_mono {x y y' z r r' : Int} (x0 : 0 ≤ x) (hz : x ≤ z) (hy : y ≤ y') (h : Lo z y r) (h' : Lo x y' r') : r ≤ r' := by
  have a := Int.mul_le_mul_of_nonneg_left (show 1000000 + x ≤ 1000000 + z by omega) h.nn
  have := lt_of_mul (show 0 < 1000000 + x by omega) (show r * (1000000 + x) < (r' + 1) * (1000000 + x) from by have := h.le; have := h'.gt; omega)
  omega
theorem hi_mono {x y y' z r r' : Int} (z1 : z ≤ 500000) (hz : x ≤ z) (hy : y ≤ y') (h : Hi x y r) (h' : Hi z y' r') : r ≤ r' := by
  have a := Int.mul_le_mul_of_nonneg_left (show 1000000 - z ≤ 1000000 - x by omega) h'.nn
  have := lt_of_mul (show 0 < 1000000 - x by omega) (show (r - 1) * (1000000 - x) < r' * (1000000 - x) from by have := h.lt; have := h'.ge; omega)
  omega
theorem lo_self {x y r : Int} (x0 : 0 ≤ x) (h : Lo x y r) : r ≤ y := by
  have a := Int.mul_le_mul_of_nonneg_left (show 1000000 ≤ 1000000 + x by omega) h.nn
  have := h.le
  omega
theorem hi_self {x y r : Int} (x0 : 0 ≤ x) (h : Hi x y r) : y ≤ r := by
  have a := Int.mul_le_mul_of_nonneg_left (show 1000000 - x ≤ 1000000 by omega) h.nn
  have := h.ge
  omega
theorem hi_bd {x y r : Int} (x1 : x ≤ 500000) (y1 : y ≤ 5000000000) (h : Hi x y r) : r ≤ 10000000001 := by
  have a := h.lt
  by_cases hr : r ≤ 10000000001
  · exact hr
  · have b := Int.mul_le_mul (show 10000000001 ≤ r - 1 by omega) (show 500000 ≤ 1000000 - x by omega) (by decide) (by omega)
    omega

theorem hi_two {x y r : Int} (x1 : x ≤ 500000) (y0 : 0 ≤ y) (h : Hi x y r) : r ≤ 2 * y + 1 := by
  have a := h.lt
  by_cases hr : r ≤ 2 * y + 1
  · exact hr
  · have b := Int.mul_le_mul (show 2 * y ≤ r - 1 by omega) (show 500000 ≤ 1000000 - x by omega) (by decide) (by omega)
    omega
end CM
theorem lo_bd (x d : Int) (x0 : 0 ≤ x) (d0 : 0 ≤ d) : 0 ≤ loE x d ∧ loE x d ≤ d := ⟨(CM.lo_of x d x0 d0).nn, CM.lo_self x0 (CM.lo_of x d x0 d0)⟩
theorem hi_bd (x d : Int) (x0 : 0 ≤ x) (x1 : x ≤ 500000) (d0 : 0 ≤ d) : d ≤ hiE x d ∧ hiE x d ≤ 2 * d + 1 := ⟨CM.hi_self x0 (CM.hi_of x d x0 x1 d0), CM.hi_two x1 d0 (CM.hi_of x d x0 x1 d0)⟩
theorem lo_drift (x z d : Int) (x0 : 0 ≤ x) (hz : x ≤ z) (d0 : 0 ≤ d) : loE z d ≤ loE x d := CM.lo_mono x0 hz (Int.le_refl _) (CM.lo_of z d (by omega) d0) (CM.lo_of x d x0 d0)
theorem hi_drift (x z d : Int) (x0 : 0 ≤ x) (hz : x ≤ z) (z1 : z ≤ 500000) (d0 : 0 ≤ d) : hiE x d ≤ hiE z d := CM.hi_mono z1 hz (Int.le_refl _) (CM.hi_of x d x0 (by omega) d0) (CM.hi_of z d (by omega) z1 d0)
/-- The ends of the interval of an anchor. -/
def ivL (x t l tag : Int) : Int := if t ≤ tag then l + loE x (tag - t) else l - hiE x (t - tag)
def ivH (x t h tag : Int) : Int := if t ≤ tag then h + hiE x (tag - t) else h - loE x (t - tag)
theorem ivL_bd (x t l tag : Int) (x0 : 0 ≤ x) (x1 : x ≤ 500000) (t0 : 0 ≤ t) (t1 : t ≤ 200000) (g0 : 0 ≤ tag) (g1 : tag ≤ 200000) : l - 500000 ≤ ivL x t l tag ∧ ivL x t l tag ≤ l + (tag - t) ∧ ivL x t l tag ≤ l + 200000 := by
  unfold ivL
  split
  · have := lo_bd x (tag - t) x0 (by omega); omega
  · have := hi_bd x (t - tag) x0 x1 (by omega); omega
theorem ivH_bd (x t h tag : Int) (x0 : 0 ≤ x) (x1 : x ≤ 500000) (t0 : 0 ≤ t) (t1 : t ≤ 200000) (g0 : 0 ≤ tag) (g1 : tag ≤ 200000) : ivH x t h tag ≤ h + 500000 ∧ h + (tag - t) ≤ ivH x t h tag ∧ h - 200000 ≤ ivH x t h tag := by
  unfold ivH
  split
  · have := hi_bd x (tag - t) x0 x1 (by omega); omega
  · have := lo_bd x (t - tag) x0 (by omega); omega
theorem iv_wide (x z t l h tag : Int) (x0 : 0 ≤ x) (hz : x ≤ z) (z1 : z ≤ 500000) : ivL z t l tag ≤ ivL x t l tag ∧ ivH x t h tag ≤ ivH z t h tag := by
  unfold ivL ivH
  by_cases hc : t ≤ tag
  · rw [if_pos hc, if_pos hc, if_pos hc, if_pos hc]
    have a := lo_drift x z (tag - t) x0 hz (by omega)
    have b := hi_drift x z (tag - t) x0 hz z1 (by omega)
    omega
  · rw [if_neg hc, if_neg hc, if_neg hc, if_neg hc]
    have a := lo_drift x z (t - tag) x0 hz (by omega)
    have b := hi_drift x z (t - tag) x0 hz z1 (by omega)
    omega
theorem iv_shift (x t l tag b : Int) : ivL x t (l + b) tag = ivL x t l tag + b ∧ ivH x t (l + b) tag = ivH x t l tag + b := by
  unfold ivL ivH
  by_cases hc : t ≤ tag
  · simp only [if_pos hc]; omega
  · simp only [if_neg hc]; omega
/-- A list of valid anchors near the base. -/
structure Ok (n : Nat) (T L H : Nat → Int) : Prop where
  n5 : n ≤ 5
  t0 : ∀ k, k < n → 0 ≤ T k
  t1 : ∀ k, k < n → T k ≤ 200000
  up : ∀ k, k + 1 < n → T k < T (k + 1)
  l0 : ∀ k, k < n → 900000000000 ≤ L k
  lh : ∀ k, k < n → L k ≤ H k
  h1 : ∀ k, k < n → H k ≤ 1100000000000
theorem Ok.pre {n : Nat} {T L H : Nat → Int} (h : Ok (n + 1) T L H) : Ok n T L H :=
  ⟨by have := h.n5; omega, fun k hk => h.t0 k (by omega), fun k hk => h.t1 k (by omega), fun k hk => h.up k (by omega), fun k hk => h.l0 k (by omega), fun k hk => h.lh k (by omega), fun k hk => h.h1 k (by omega)⟩
/-- Whether two anchors agree. -/
def agB (x t l h t' l' h' : Int) : Bool := decide (ivL x t l t' ≤ h') && decide (l' ≤ ivH x t h t')
/-- The jumps before the anchor k. -/
def jl (x : Int) (T L H : Nat → Int) (k : Nat) : List Nat := (List.range k).filter fun i => decide (1 ≤ i) && !agB x (T (i - 1)) (L (i - 1)) (H (i - 1)) (T i) (L i) (H i)
theorem jl_yes (x : Int) (T L H : Nat → Int) (k : Nat) (_hk : 1 ≤ k) (h : agB x (T (k - 1)) (L (k - 1)) (H (k - 1)) (T k) (L k) (H k) = true) : jl x T L H (k + 1) = jl x T L H k := by
  simp [jl, List.range_succ, h]
theorem jl_no (x : Int) (T L H : Nat → Int) (k : Nat) (hk : 1 ≤ k) (h : agB x (T (k - 1)) (L (k - 1)) (H (k - 1)) (T k) (L k) (H k) = false) : jl x T L H (k + 1) = jl x T L H k ++ [k] := by
  simp [jl, List.range_succ, h, hk]
theorem jl_one (x : Int) (T L H : Nat → Int) (k : Nat) (hk : k ≤ 1) : jl x T L H k = [] := by
  rcases (show k = 0 ∨ k = 1 by omega) with rfl | rfl
  · rfl
  · rfl
theorem jl_len (x : Int) (T L H : Nat → Int) (k : Nat) : (jl x T L H k).length ≤ k := Nat.le_trans (List.length_filter_le _ _) (by simp)
theorem jl_mem (x : Int) (T L H : Nat → Int) (k j : Nat) (h : j ∈ jl x T L H k) : 1 ≤ j ∧ j < k := by
  simp [jl] at h; omega
theorem jl_up (x : Int) (T L H : Nat → Int) (k : Nat) : (jl x T L H k).Pairwise (· < ·) := List.Pairwise.filter _ List.pairwise_lt_range
/-- The run of a tag. -/
def runOf (T : Nat → Int) (tag : Int) (n : Nat) : List Nat → Nat → Nat × Nat
  | [], f => (f, n)
  | j :: js, f => if tag < T j then (f, j) else runOf T tag n js j
theorem runOf_bd (T : Nat → Int) (tag : Int) (n : Nat) : ∀ (js : List Nat) (f : Nat), f < n → (∀ j ∈ js, f < j ∧ j < n) → js.Pairwise (· < ·) → (runOf T tag n js f).1 < (runOf T tag n js f).2 ∧ (runOf T tag n js f).2 ≤ n := by
  intro js
  induction js with
  | nil => intro f hf _ _; exact ⟨hf, Nat.le_refl _⟩
  | cons j js ih =>
    intro f hf hj hp
    have h0 := hj j (by simp)
    unfold runOf
    split
    · exact ⟨h0.1, by show j ≤ n; omega⟩
    · rw [List.pairwise_cons] at hp
      exact ih j h0.2 (fun i hi => ⟨hp.1 i hi, (hj i (by simp [hi])).2⟩) hp.2
/-- The greatest and the least of some numbers, between the bounds of all times. -/
def mxL (g : Nat → Int) (f : Nat) : Nat → Int
  | 0 => 0
  | k + 1 => max (mxL g f k) (g (f + k))
def mnH (g : Nat → Int) (f : Nat) : Nat → Int
  | 0 => 9007199254740992
  | k + 1 => min (mnH g f k) (g (f + k))
theorem mxL_ge (g : Nat → Int) (f : Nat) : ∀ k, 0 ≤ mxL g f k ∧ ∀ i, i < k → g (f + i) ≤ mxL g f k := by
  intro k
  induction k with
  | zero => exact ⟨Int.le_refl _, fun i hi => by omega⟩
  | succ k ih =>
    refine ⟨by unfold mxL; omega, fun i hi => ?_⟩
    by_cases he : i = k
    · subst he; unfold mxL; omega
    · have := ih.2 i (by omega); unfold mxL; omega
theorem mxL_is (g : Nat → Int) (f : Nat) : ∀ k, mxL g f k = 0 ∨ ∃ i, i < k ∧ mxL g f k = g (f + i) := by
  intro k
  induction k with
  | zero => exact .inl rfl
  | succ k ih =>
    have e : mxL g f (k + 1) = max (mxL g f k) (g (f + k)) := rfl
    rcases Int.le_total (mxL g f k) (g (f + k)) with h | h
    · exact .inr ⟨k, by omega, by rw [e]; omega⟩
    · rcases ih with h0 | ⟨i, hi, h0⟩
      · exact .inl (by rw [e]; omega)
      · exact .inr ⟨i, by omega, by rw [e]; omega⟩
theorem mnH_le (g : Nat → Int) (f : Nat) : ∀ k, mnH g f k ≤ 9007199254740992 ∧ ∀ i, i < k → mnH g f k ≤ g (f + i) := by
  intro k
  induction k with
  | zero => exact ⟨Int.le_refl _, fun i hi => by omega⟩
  | succ k ih =>
    refine ⟨by unfold mnH; omega, fun i hi => ?_⟩
    by_cases he : i = k
    · subst he; unfold mnH; omega
    · have := ih.2 i (by omega); unfold mnH; omega
theorem mnH_is (g : Nat → Int) (f : Nat) : ∀ k, mnH g f k = 9007199254740992 ∨ ∃ i, i < k ∧ mnH g f k = g (f + i) := by
  intro k
  induction k with
  | zero => exact .inl rfl
  | succ k ih =>
    have e : mnH g f (k + 1) = min (mnH g f k) (g (f + k)) := rfl
    rcases Int.le_total (g (f + k)) (mnH g f k) with h | h
    · exact .inr ⟨k, by omega, by rw [e]; omega⟩
    · rcases ih with h0 | ⟨i, hi, h0⟩
      · exact .inl (by rw [e]; omega)
      · exact .inr ⟨i, by omega, by rw [e]; omega⟩
/-- The bounds of a tag in a run. -/
def bdL (x : Int) (T L : Nat → Int) (tag : Int) (n f t : Nat) : Int := if t < n ∧ T (t - 1) ≤ tag then max (min (ivL x (T (t - 1)) (L (t - 1)) tag) (ivL x (T t) (L t) tag)) 0 else mxL (fun k => ivL x (T k) (L k) tag) f (t - f)
def bdH (x : Int) (T H : Nat → Int) (tag : Int) (n f t : Nat) : Int := if t < n ∧ T (t - 1) ≤ tag then min (max (ivH x (T (t - 1)) (H (t - 1)) tag) (ivH x (T t) (H t) tag)) 9007199254740992 else mnH (fun k => ivH x (T k) (H k) tag) f (t - f)
/-- The bounds of a tag. -/
def coL (x : Int) (T L H : Nat → Int) (tag : Int) (n : Nat) : Int := bdL x T L tag n (runOf T tag n (jl x T L H n) 0).1 (runOf T tag n (jl x T L H n) 0).2
def coH (x : Int) (T L H : Nat → Int) (tag : Int) (n : Nat) : Int := bdH x T H tag n (runOf T tag n (jl x T L H n) 0).1 (runOf T tag n (jl x T L H n) 0).2
theorem bdL_bd (x : Int) (T L H : Nat → Int) (tag : Int) (n f t : Nat) (ok : Ok n T L H) (x0 : 0 ≤ x) (x1 : x ≤ 500000) (g0 : 0 ≤ tag) (g1 : tag ≤ 200000) (hf : f < t) (ht : t ≤ n) : 0 ≤ bdL x T L tag n f t ∧ bdL x T L tag n f t ≤ 1200000000000 := by
  have A : ∀ k, k < n → 0 ≤ ivL x (T k) (L k) tag ∧ ivL x (T k) (L k) tag ≤ 1200000000000 := fun k hk => by
    have := ivL_bd x (T k) (L k) tag x0 x1 (ok.t0 k hk) (ok.t1 k hk) g0 g1
    have := ok.l0 k hk; have := ok.lh k hk; have := ok.h1 k hk; omega
  unfold bdL
  split
  · next hc => have := A (t - 1) (by omega); have := A t (by omega); omega
  · have h0 := mxL_ge (fun k => ivL x (T k) (L k) tag) f (t - f)
    rcases mxL_is (fun k => ivL x (T k) (L k) tag) f (t - f) with h | ⟨i, hi, h⟩
    · rw [h]; omega
    · rw [h]; exact A _ (by omega)
theorem bdH_bd (x : Int) (T L H : Nat → Int) (tag : Int) (n f t : Nat) (ok : Ok n T L H) (x0 : 0 ≤ x) (x1 : x ≤ 500000) (g0 : 0 ≤ tag) (g1 : tag ≤ 200000) (hf : f < t) (ht : t ≤ n) : 0 ≤ bdH x T H tag n f t ∧ bdH x T H tag n f t ≤ 1200000000000 := by
  have A : ∀ k, k < n → 0 ≤ ivH x (T k) (H k) tag ∧ ivH x (T k) (H k) tag ≤ 1200000000000 := fun k hk => by
    have := ivH_bd x (T k) (H k) tag x0 x1 (ok.t0 k hk) (ok.t1 k hk) g0 g1
    have := ok.l0 k hk; have := ok.lh k hk; have := ok.h1 k hk; omega
  unfold bdH
  split
  · next hc => have := A (t - 1) (by omega); have := A t (by omega); omega
  · have h0 := (mnH_le (fun k => ivH x (T k) (H k) tag) f (t - f)).2 0 (by omega)
    rcases mnH_is (fun k => ivH x (T k) (H k) tag) f (t - f) with h | ⟨i, hi, h⟩
    · have := A (f + 0) (by omega)
      omega
    · rw [h]; exact A _ (by omega)
/-- The true time lies in the interval of each anchor. -/
def Tr (n : Nat) (T L H : Nat → Int) : Prop := ∀ k, k < n → L k ≤ 999999999000 + T k ∧ 999999999000 + T k ≤ H k
theorem tr_ag {n : Nat} {T L H : Nat → Int} (x : Int) (ok : Ok n T L H) (tr : Tr n T L H) (x0 : 0 ≤ x) (x1 : x ≤ 500000) (i j : Nat) (hi : i < n) (hj : j < n) : agB x (T i) (L i) (H i) (T j) (L j) (H j) = true := by
  have a := ivL_bd x (T i) (L i) (T j) x0 x1 (ok.t0 i hi) (ok.t1 i hi) (ok.t0 j hj) (ok.t1 j hj)
  have b := ivH_bd x (T i) (H i) (T j) x0 x1 (ok.t0 i hi) (ok.t1 i hi) (ok.t0 j hj) (ok.t1 j hj)
  have c := tr i hi
  have d := tr j hj
  unfold agB
  rw [decide_eq_true (by omega), decide_eq_true (by omega)]; rfl
theorem tr_jl {n : Nat} {T L H : Nat → Int} (x : Int) (ok : Ok n T L H) (tr : Tr n T L H) (x0 : 0 ≤ x) (x1 : x ≤ 500000) : ∀ k, k ≤ n → jl x T L H k = [] := by
  intro k
  induction k with
  | zero => intro _; rfl
  | succ k ih =>
    intro hk
    by_cases h1 : 1 ≤ k
    · rw [jl_yes x T L H k h1 (tr_ag x ok tr x0 x1 (k - 1) k (by omega) (by omega))]; exact ih (by omega)
    · exact jl_one x T L H (k + 1) (by omega)
theorem co_plain (x : Int) (T L H : Nat → Int) (tag : Int) (n : Nat) (h : jl x T L H n = []) : coL x T L H tag n = mxL (fun k => ivL x (T k) (L k) tag) 0 n ∧ coH x T L H tag n = mnH (fun k => ivH x (T k) (H k) tag) 0 n := by
  unfold coL coH
  rw [h]
  show bdL x T L tag n 0 n = _ ∧ bdH x T H tag n 0 n = _
  unfold bdL bdH
  rw [if_neg (by omega), if_neg (by omega)]
  exact ⟨rfl, rfl⟩
theorem co_true {n : Nat} {T L H : Nat → Int} (x tag : Int) (ok : Ok n T L H) (tr : Tr n T L H) (x0 : 0 ≤ x) (x1 : x ≤ 500000) (g0 : 0 ≤ tag) (g1 : tag ≤ 200000) : coL x T L H tag n ≤ 999999999000 + tag ∧ 999999999000 + tag ≤ coH x T L H tag n := by
  obtain ⟨e1, e2⟩ := co_plain x T L H tag n (tr_jl x ok tr x0 x1 n (Nat.le_refl _))
  rw [e1, e2]
  constructor
  · rcases mxL_is (fun k => ivL x (T k) (L k) tag) 0 n with h | ⟨i, hi, h⟩
    · rw [h]; omega
    · rw [h, Nat.zero_add]
      have a := ivL_bd x (T i) (L i) tag x0 x1 (ok.t0 i hi) (ok.t1 i hi) g0 g1
      have := tr i hi; omega
  · rcases mnH_is (fun k => ivH x (T k) (H k) tag) 0 n with h | ⟨i, hi, h⟩
    · rw [h]; omega
    · rw [h, Nat.zero_add]
      have a := ivH_bd x (T i) (H i) tag x0 x1 (ok.t0 i hi) (ok.t1 i hi) g0 g1
      have := tr i hi; omega
theorem Tr.pre {n : Nat} {T L H : Nat → Int} (h : Tr (n + 1) T L H) : Tr n T L H := fun k hk => h k (by omega)
theorem co_pre {n : Nat} {T L H : Nat → Int} (x tag : Int) (ok : Ok (n + 1) T L H) (tr : Tr (n + 1) T L H) (x0 : 0 ≤ x) (x1 : x ≤ 500000) : coL x T L H tag n ≤ coL x T L H tag (n + 1) ∧ coH x T L H tag (n + 1) ≤ coH x T L H tag n := by
  obtain ⟨e1, e2⟩ := co_plain x T L H tag n (tr_jl x ok tr x0 x1 n (by omega))
  obtain ⟨e3, e4⟩ := co_plain x T L H tag (n + 1) (tr_jl x ok tr x0 x1 (n + 1) (by omega))
  rw [e1, e2, e3, e4]
  have h1 : mxL (fun k => ivL x (T k) (L k) tag) 0 (n + 1) = max (mxL (fun k => ivL x (T k) (L k) tag) 0 n) (ivL x (T (0 + n)) (L (0 + n)) tag) := rfl
  have h2 : mnH (fun k => ivH x (T k) (H k) tag) 0 (n + 1) = min (mnH (fun k => ivH x (T k) (H k) tag) 0 n) (ivH x (T (0 + n)) (H (0 + n)) tag) := rfl
  omega
theorem mxL_mono (g g' : Nat → Int) (f : Nat) : ∀ k, (∀ i, i < k → g (f + i) ≤ g' (f + i)) → mxL g f k ≤ mxL g' f k := by
  intro k
  induction k with
  | zero => intro _; exact Int.le_refl _
  | succ k ih => intro h; have := ih (fun i hi => h i (by omega)); have := h k (by omega); unfold mxL; omega
theorem mnH_mono (g g' : Nat → Int) (f : Nat) : ∀ k, (∀ i, i < k → g (f + i) ≤ g' (f + i)) → mnH g f k ≤ mnH g' f k := by
  intro k
  induction k with
  | zero => intro _; exact Int.le_refl _
  | succ k ih => intro h; have := ih (fun i hi => h i (by omega)); have := h k (by omega); unfold mnH; omega
theorem co_drift {n : Nat} {T L H : Nat → Int} (x z tag : Int) (ok : Ok n T L H) (tr : Tr n T L H) (x0 : 0 ≤ x) (hz : x ≤ z) (z1 : z ≤ 500000) : coL z T L H tag n ≤ coL x T L H tag n ∧ coH x T L H tag n ≤ coH z T L H tag n := by
  obtain ⟨e1, e2⟩ := co_plain x T L H tag n (tr_jl x ok tr x0 (by omega) n (by omega))
  obtain ⟨e3, e4⟩ := co_plain z T L H tag n (tr_jl z ok tr (by omega) z1 n (by omega))
  rw [e1, e2, e3, e4]
  exact ⟨mxL_mono _ _ _ _ fun i _ => (iv_wide x z (T (0 + i)) (L (0 + i)) (H (0 + i)) tag x0 hz z1).1, mnH_mono _ _ _ _ fun i _ => (iv_wide x z (T (0 + i)) (L (0 + i)) (H (0 + i)) tag x0 hz z1).2⟩
/-- Moved anchors. -/
theorem ag_shift (x t l h t' l' h' b : Int) : agB x t (l + b) (h + b) t' (l' + b) (h' + b) = agB x t l h t' l' h' := by
  have a := iv_shift x t l t' b
  have c := iv_shift x t h t' b
  unfold agB
  rw [a.1, c.2]
  congr 1 <;> (apply decide_eq_decide.2; constructor <;> intro _ <;> omega)
theorem jl_shift (x : Int) (T L H : Nat → Int) (b : Int) (k : Nat) : jl x T (fun i => L i + b) (fun i => H i + b) k = jl x T L H k := by
  unfold jl
  congr 1
  funext i
  rw [ag_shift]
theorem mxL_shift (g : Nat → Int) (b : Int) (b0 : 0 ≤ b) (f : Nat) : ∀ k, 1 ≤ k → (∀ i, i < k → 0 ≤ g (f + i)) → mxL (fun i => g i + b) f k = mxL g f k + b := by
  intro k
  induction k with
  | zero => intro h; omega
  | succ k ih =>
    intro _ h
    have h0 := h k (by omega)
    by_cases hk : 1 ≤ k
    · have := ih hk (fun i hi => h i (by omega)); unfold mxL; omega
    · obtain rfl : k = 0 := by omega
      unfold mxL mxL; omega
theorem mnH_shift (g : Nat → Int) (b : Int) (f : Nat) : ∀ k, 1 ≤ k → (∀ i, i < k → g (f + i) + b ≤ 9007199254740992 ∧ g (f + i) ≤ 9007199254740992) → mnH (fun i => g i + b) f k = mnH g f k + b := by
  intro k
  induction k with
  | zero => intro h; omega
  | succ k ih =>
    intro _ h
    have h0 := h k (by omega)
    by_cases hk : 1 ≤ k
    · have := ih hk (fun i hi => h i (by omega)); unfold mnH; omega
    · obtain rfl : k = 0 := by omega
      unfold mnH mnH; omega
theorem co_shift {n : Nat} {T L H : Nat → Int} (x tag b : Int) (ok : Ok n T L H) (hn : 0 < n) (x0 : 0 ≤ x) (x1 : x ≤ 500000) (g0 : 0 ≤ tag) (g1 : tag ≤ 200000) (b0 : 0 ≤ b) (b1 : b ≤ 4294967295) :
    coL x T (fun i => L i + b) (fun i => H i + b) tag n = coL x T L H tag n + b ∧ coH x T (fun i => L i + b) (fun i => H i + b) tag n = coH x T L H tag n + b := by
  unfold coL coH
  rw [jl_shift]
  obtain ⟨r1, r2⟩ := runOf_bd T tag n (jl x T L H n) 0 hn (fun j hj => jl_mem x T L H n j hj) (jl_up x T L H n)
  generalize (runOf T tag n (jl x T L H n) 0).1 = f at *
  generalize (runOf T tag n (jl x T L H n) 0).2 = t at *
  have A : ∀ k, k < n → 0 ≤ ivL x (T k) (L k) tag ∧ ivH x (T k) (H k) tag ≤ 1200000000000 := fun k hk => by
    have := ivL_bd x (T k) (L k) tag x0 x1 (ok.t0 k hk) (ok.t1 k hk) g0 g1
    have := ivH_bd x (T k) (H k) tag x0 x1 (ok.t0 k hk) (ok.t1 k hk) g0 g1
    have := ok.l0 k hk; have := ok.lh k hk; have := ok.h1 k hk; omega
  have S1 : ∀ k, ivL x (T k) (L k + b) tag = ivL x (T k) (L k) tag + b := fun k => (iv_shift x (T k) (L k) tag b).1
  have S2 : ∀ k, ivH x (T k) (H k + b) tag = ivH x (T k) (H k) tag + b := fun k => (iv_shift x (T k) (H k) tag b).2
  unfold bdL bdH
  simp only [S1, S2]
  by_cases hc : t < n ∧ T (t - 1) ≤ tag
  · rw [if_pos hc, if_pos hc, if_pos hc, if_pos hc]
    have := A (t - 1) (by omega); have := A t (by omega); omega
  · rw [if_neg hc, if_neg hc, if_neg hc, if_neg hc]
    exact ⟨mxL_shift _ b b0 f _ (by omega) (fun i hi => (A _ (by omega)).1), mnH_shift _ b f _ (by omega) (fun i hi => by have := (A (f + i) (by omega)).2; omega)⟩
end Clock
end Go.Proofs.Ytdcjpjdkamlheaa
