/- The mathematics of the detector: sums, what scan does, scaling, flat samples. -/
import Derived.WalkKit
import Derived.Lib.Hide
set_option linter.unusedVariables false
namespace Go.Proofs.YtbmcmiggifknfaaDoor
namespace Det
/-- The sum of the first k values. -/
def psum (V : Nat → Int) : Nat → Int
  | 0 => 0
  | k + 1 => psum V k + V k
/-- The sum of the last S values up to the sample i. -/
def win (V : Nat → Int) (S i : Nat) : Int := psum V (i + 1) - psum V (i + 1 - S)
theorem win_zero (V : Nat → Int) (S : Nat) (h : 1 ≤ S) : win V S 0 = V 0 := by
  unfold win
  rw [show 0 + 1 - S = 0 by omega]
  simp [psum]
theorem win_step_old (V : Nat → Int) (S i : Nat) (h : i + 1 < S) : win V S (i + 1) = win V S i + V (i + 1) := by
  unfold win
  rw [show i + 1 + 1 - S = 0 by omega, show i + 1 - S = 0 by omega]
  simp [psum]
theorem win_step (V : Nat → Int) (S i : Nat) (h0 : 1 ≤ S) (h : S ≤ i + 1) : win V S (i + 1) = win V S i + V (i + 1) - V (i + 1 - S) := by
  unfold win
  rw [show i + 1 + 1 - S = (i + 1 - S) + 1 by omega]
  simp only [psum]
  omega
/-- A trigger, On, Off and Peak. -/
structure Tr where
  on : Int
  off : Int
  pk : Int
/-- A ratio is reached. -/
def rch (S L : Nat) (sh lo p : Int) : Bool := decide (lo ≠ 0) && decide (100 * (L : Int) * sh ≥ p * (S : Int) * lo)
/-- The detector's numbers. -/
structure Dt where
  S : Nat
  L : Nat
  on : Int
  off : Int
/-- What scan does at the sample i. -/
def step (d : Dt) (V : Nat → Int) (i : Nat) (e : List Tr) (o : Tr) : List Tr × Tr :=
  if i + 1 < d.L then (e, o)
  else if o.on < 0 then
    if rch d.S d.L (win V d.S i) (win V d.L i) d.on then (e, ⟨i, -1, V i⟩) else (e, o)
  else if rch d.S d.L (win V d.S i) (win V d.L i) d.off then (e, ⟨o.on, o.off, max o.pk (V i)⟩)
  else (e ++ [⟨o.on, i, o.pk⟩], ⟨-1, 0, 0⟩)
/-- What scan has made behind k samples. -/
def scn (d : Dt) (V : Nat → Int) : Nat → List Tr × Tr
  | 0 => ([], ⟨-1, 0, 0⟩)
  | k + 1 => step d V k (scn d V k).1 (scn d V k).2
/-- What Run returns. -/
def runL (d : Dt) (V : Nat → Int) (n : Nat) : List Tr := (scn d V n).1 ++ if (scn d V n).2.on < 0 then [] else [(scn d V n).2]
/-- A trigger with its peak multiplied. -/
def mul (c : Int) (t : Tr) : Tr := ⟨t.on, t.off, c * t.pk⟩
theorem psum_mul (V : Nat → Int) (c : Int) : ∀ k, psum (fun i => c * V i) k = c * psum V k := by
  intro k
  induction k with
  | zero => simp [psum]
  | succ k ih => simp only [psum]; rw [ih, Int.mul_add]
theorem win_mul (V : Nat → Int) (c : Int) (S i : Nat) : win (fun i => c * V i) S i = c * win V S i := by
  unfold win
  rw [psum_mul, psum_mul, Int.mul_sub]
theorem rch_mul (S L : Nat) (sh lo p c : Int) (hc : 0 < c) : rch S L (c * sh) (c * lo) p = rch S L sh lo p := by
  unfold rch
  have h1 : decide (c * lo ≠ 0) = decide (lo ≠ 0) := by
    by_cases h : lo = 0
    · subst h; simp
    · rw [decide_eq_true h, decide_eq_true (Int.mul_ne_zero (by omega) h)]
  have e1 : 100 * (L : Int) * (c * sh) = c * (100 * (L : Int) * sh) := by grind
  have e2 : p * (S : Int) * (c * lo) = c * (p * (S : Int) * lo) := by grind
  have h2 : decide (100 * (L : Int) * (c * sh) ≥ p * (S : Int) * (c * lo)) = decide (100 * (L : Int) * sh ≥ p * (S : Int) * lo) := by
    rw [e1, e2]
    by_cases h : 100 * (L : Int) * sh ≥ p * (S : Int) * lo
    · rw [decide_eq_true h, decide_eq_true (Int.mul_le_mul_of_nonneg_left h (by omega))]
    · rw [decide_eq_false h, decide_eq_false (fun hh => h (Int.le_of_mul_le_mul_left hh hc))]
  rw [h1, h2]
theorem step_mul (d : Dt) (V : Nat → Int) (c : Int) (hc : 0 < c) (i : Nat) (e : List Tr) (o : Tr) : step d (fun i => c * V i) i (e.map (mul c)) (mul c o) = ((step d V i e o).1.map (mul c), mul c (step d V i e o).2) := by
  unfold step
  rw [win_mul, win_mul, rch_mul _ _ _ _ _ _ hc, rch_mul _ _ _ _ _ _ hc]
  have e1 : (mul c o).on = o.on := rfl
  rw [e1]
  split
  · rfl
  split
  · split
    · rfl
    · rfl
  split
  · refine Prod.ext rfl ?_
    show (⟨o.on, o.off, max (c * o.pk) (c * V i)⟩ : Tr) = ⟨o.on, o.off, c * max o.pk (V i)⟩
    congr 1
    by_cases h : o.pk ≤ V i
    · rw [show max o.pk (V i) = V i by omega]
      have := Int.mul_le_mul_of_nonneg_left h (show 0 ≤ c by omega)
      omega
    · rw [show max o.pk (V i) = o.pk by omega]
      have := Int.mul_le_mul_of_nonneg_left (show V i ≤ o.pk by omega) (show 0 ≤ c by omega)
      omega
  · refine Prod.ext ?_ ?_
    · simp [mul]
    · simp [mul]
theorem scn_mul (d : Dt) (V : Nat → Int) (c : Int) (hc : 0 < c) : ∀ k, scn d (fun i => c * V i) k = ((scn d V k).1.map (mul c), mul c (scn d V k).2) := by
  intro k
  induction k with
  | zero => simp [scn, mul]
  | succ k ih => simp only [scn]; rw [ih]; exact step_mul d V c hc k _ _
/-- Samples multiplied by a positive number: the peaks alone are multiplied. -/
theorem run_mul (d : Dt) (V : Nat → Int) (c : Int) (hc : 0 < c) (n : Nat) : runL d (fun i => c * V i) n = (runL d V n).map (mul c) := by
  unfold runL
  rw [scn_mul d V c hc n]
  have e1 : (mul c (scn d V n).2).on = (scn d V n).2.on := rfl
  simp only [List.map_append]
  rw [e1]
  split <;> simp
theorem psum_flat (m : Int) : ∀ k, psum (fun _ => m) k = k * m := by
  intro k
  induction k with
  | zero => simp [psum]
  | succ k ih => simp only [psum]; rw [ih]; push_cast; rw [Int.add_mul]; omega
theorem win_flat (m : Int) (S i : Nat) (h : S ≤ i + 1) : win (fun _ => m) S i = S * m := by
  unfold win
  rw [psum_flat, psum_flat, ← Int.sub_mul]
  congr 1
  omega
theorem rch_flat (S L : Nat) (m p : Int) (hS : 1 ≤ S) (hL : 1 ≤ L) (hm : 0 ≤ m) : rch S L (S * m) (L * m) p = (decide (0 < m) && decide (p ≤ 100)) := by
  unfold rch
  by_cases h0 : m = 0
  · subst h0; simp
  · have hm1 : 0 < m := by omega
    have hk : 0 < (L : Int) * S * m := Int.mul_pos (Int.mul_pos (by omega) (by omega)) hm1
    rw [decide_eq_true (p := (L : Int) * m ≠ 0) (Int.mul_ne_zero (by omega) h0), decide_eq_true hm1]
    have e1 : 100 * (L : Int) * (S * m) = ((L : Int) * S * m) * 100 := by grind
    have e2 : p * (S : Int) * (L * m) = ((L : Int) * S * m) * p := by grind
    rw [e1, e2]
    by_cases h : p ≤ 100
    · rw [decide_eq_true h, decide_eq_true (Int.mul_le_mul_of_nonneg_left h (by omega))]
    · rw [decide_eq_false h, decide_eq_false (fun hh => h (Int.le_of_mul_le_mul_left hh hk))]
/-- Samples of one absolute value: no trigger. -/
theorem flat_none (d : Dt) (m : Int) (hS : 1 ≤ d.S) (hL : d.S ≤ d.L) (hm : 0 ≤ m) (h : 100 < d.on ∨ m = 0) : ∀ k, scn d (fun _ => m) k = ([], ⟨-1, 0, 0⟩) := by
  intro k
  induction k with
  | zero => rfl
  | succ k ih =>
    simp only [scn]
    rw [ih]
    unfold step
    split
    · rfl
    · have hn : (decide (0 < m) && decide (d.on ≤ 100)) = false := by
        rcases h with h | h
        · rw [decide_eq_false (show ¬ d.on ≤ 100 by omega)]; simp
        · rw [decide_eq_false (show ¬ 0 < m by omega)]; rfl
      rw [win_flat m d.S k (by omega), win_flat m d.L k (by omega), rch_flat d.S d.L m d.on hS (by omega) hm, hn]
      simp
theorem flat_short (d : Dt) (V : Nat → Int) : ∀ k, k < d.L → scn d V k = ([], ⟨-1, 0, 0⟩) := by
  intro k
  induction k with
  | zero => intro _; rfl
  | succ k ih =>
    intro hk
    simp only [scn]
    rw [ih (by omega)]
    unfold step
    rw [if_pos hk]
/-- One trigger, which never ends. -/
theorem flat_one (d : Dt) (m : Int) (hS : 1 ≤ d.S) (hL : d.S ≤ d.L) (hm : 0 < m) (h : d.on ≤ 100) (ho : d.off ≤ d.on) : ∀ j, scn d (fun _ => m) (d.L + j) = ([], ⟨(d.L : Int) - 1, -1, m⟩) := by
  have hc : ∀ k p, d.L ≤ k + 1 → p ≤ 100 → rch d.S d.L (win (fun _ => m) d.S k) (win (fun _ => m) d.L k) p = true := fun k p hk hp => by
    rw [win_flat m d.S k (by omega), win_flat m d.L k (by omega), rch_flat d.S d.L m p hS (by omega) (by omega), decide_eq_true hm, decide_eq_true hp]; rfl
  intro j
  induction j with
  | zero =>
    obtain ⟨l, hl⟩ : ∃ l, d.L = l + 1 := ⟨d.L - 1, by omega⟩
    rw [Nat.add_zero, hl]
    simp only [scn]
    rw [flat_short d _ l (by omega)]
    unfold step
    rw [if_neg (by omega), if_pos (by decide), hc l d.on (by omega) h]
    simp
  | succ j ih =>
    show step d _ (d.L + j) (scn d _ (d.L + j)).1 (scn d _ (d.L + j)).2 = _
    rw [ih]
    unfold step
    rw [if_neg (by omega), if_neg (by show ¬ ((d.L : Int) - 1 < 0); omega), hc (d.L + j) d.off (by omega) (by omega)]
    simp
end Det
end Go.Proofs.YtbmcmiggifknfaaDoor
