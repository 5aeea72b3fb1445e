/- Mathematics of misfits: residuals, costs, the best time. -/
import Derived.Test.YtldgihlhioeipaaMath
set_option linter.unusedVariables false
namespace Go.Proofs.Ytldgihlhioeipaa
namespace Mis
def res (z : Int × Int) (t : Int) : Int := max (z.1 - t) (max (t - z.2) 0)
/-- The cost of the first phases. -/
def ck (cap : Int) (w : Nat → Int) (z : Nat → Int × Int) (t : Int) : Nat → Int
  | 0 => 0
  | k + 1 => ck cap w z t k + w k * min (res (z k) t) cap
/-- The ends of the zones. -/
def cd (z : Nat → Int × Int) (j : Nat) : Int := if j % 2 = 0 then (z (j / 2)).1 else (z (j / 2)).2
def better (c : Int → Int) (p : Int × Int) (k : Nat) (t : Int) : Prop := k = 0 ∨ c t < p.2 ∨ (c t = p.2 ∧ t < p.1)
instance (c : Int → Int) (p : Int × Int) (k : Nat) (t : Int) : Decidable (better c p k t) := by unfold better; infer_instance
/-- The best of the first ends. -/
def bst (c : Int → Int) (e : Nat → Int) : Nat → Int × Int
  | 0 => (0, 0)
  | k + 1 => if better c (bst c e k) k (e k) then (e k, c (e k)) else bst c e k
theorem bst_spec (c : Int → Int) (e : Nat → Int) : ∀ N, 0 < N → ∃ j, j < N ∧ bst c e N = (e j, c (e j)) ∧ ∀ i, i < N → c (e j) ≤ c (e i) ∧ (c (e i) = c (e j) → e j ≤ e i)
  | 0, h => by omega
  | N + 1, _ => by
    rcases Nat.eq_zero_or_pos N with rfl | hN
    · refine ⟨0, by omega, ?_, fun i hi => ?_⟩
      · unfold bst; rw [if_pos (.inl rfl)]
      · obtain rfl : i = 0 := by omega
        exact ⟨Int.le_refl _, fun _ => Int.le_refl _⟩
    · obtain ⟨j, hj, he, ha⟩ := bst_spec c e N hN
      unfold bst
      rw [he]
      by_cases hb : better c (e j, c (e j)) N (e N)
      · rw [if_pos hb]
        unfold better at hb
        simp only at hb
        refine ⟨N, by omega, rfl, fun i hi => ?_⟩
        by_cases hiN : i = N
        · subst hiN; exact ⟨Int.le_refl _, fun _ => Int.le_refl _⟩
        · obtain ⟨h1, h2⟩ := ha i (by omega)
          refine ⟨by omega, fun h => ?_⟩
          have := h2 (by omega)
          omega
      · rw [if_neg hb]
        unfold better at hb
        simp only at hb
        refine ⟨j, by omega, rfl, fun i hi => ?_⟩
        by_cases hiN : i = N
        · subst hiN; refine ⟨by omega, fun h => by omega⟩
        · exact ha i (by omega)
theorem cd_even (z : Nat → Int × Int) (k : Nat) : cd z (2 * k) = (z k).1 := by unfold cd; rw [if_pos (by omega)]; congr 2; omega
theorem cd_odd (z : Nat → Int × Int) (k : Nat) : cd z (2 * k + 1) = (z k).2 := by unfold cd; rw [if_neg (by omega)]; congr 2; omega
theorem max_below (e : Nat → Int) (t : Int) : ∀ N, (∃ j, j < N ∧ e j < t) → ∃ j, j < N ∧ e j < t ∧ ∀ i, i < N → e i < t → e i ≤ e j
  | 0, ⟨j, h, _⟩ => by omega
  | N + 1, ⟨j, hj, hjt⟩ => by
    by_cases h : ∃ j, j < N ∧ e j < t
    · obtain ⟨k, hk, hkt, ha⟩ := max_below e t N h
      by_cases hN : e N < t ∧ e k < e N
      · exact ⟨N, by omega, hN.1, fun i hi hit => by
          by_cases hiN : i = N
          · subst hiN; omega
          · have := ha i (by omega) hit; omega⟩
      · exact ⟨k, by omega, hkt, fun i hi hit => by
          by_cases hiN : i = N
          · subst hiN; omega
          · exact ha i (by omega) hit⟩
    · have hjN : j = N := by
        by_cases e' : j = N
        · exact e'
        · exact absurd ⟨j, by omega, hjt⟩ h
      subst hjN
      exact ⟨j, by omega, hjt, fun i hi hit => by
        by_cases hiN : i = j
        · subst hiN; omega
        · exact absurd ⟨i, by omega, hit⟩ h⟩
theorem min_above (e : Nat → Int) (t : Int) (N : Nat) (h : ∃ j, j < N ∧ t < e j) : ∃ j, j < N ∧ t < e j ∧ ∀ i, i < N → t < e i → e j ≤ e i := by
  obtain ⟨j, hj, h1⟩ := h
  obtain ⟨k, hk, h2, h3⟩ := max_below (fun j => -e j) (-t) N ⟨j, hj, by omega⟩
  exact ⟨k, hk, by omega, fun i hi hit => by have := h3 i hi (by omega); omega⟩
/-- Zones and weights as they are. -/
structure Zw (cap : Int) (w : Nat → Int) (z : Nat → Int × Int) (n : Nat) : Prop where
  c0 : 0 ≤ cap
  w0 : ∀ k, k < n → 0 ≤ w k
  le : ∀ k, k < n → (z k).1 ≤ (z k).2
theorem ck_le (cap : Int) (w : Nat → Int) (z z' : Nat → Int × Int) (t t' : Int) : ∀ n, (∀ k, k < n → 0 ≤ w k) → (∀ k, k < n → res (z k) t ≤ res (z' k) t') → ck cap w z t n ≤ ck cap w z' t' n
  | 0, _, _ => Int.le_refl _
  | n + 1, hw, h => by
    have ih := ck_le cap w z z' t t' n (fun k hk => hw k (by omega)) (fun k hk => h k (by omega))
    have h1 := h n (by omega)
    have h2 : w n * min (res (z n) t) cap ≤ w n * min (res (z' n) t') cap := Int.mul_le_mul_of_nonneg_left (by omega) (hw n (by omega))
    unfold ck; omega
theorem res0 (z : Int × Int) (t : Int) : 0 ≤ res z t := by unfold res; omega
theorem ck_bd (cap : Int) (w : Nat → Int) (z : Nat → Int × Int) (t : Int) (c0 : 0 ≤ cap) (c9 : cap ≤ 2000) : ∀ n, (∀ k, k < n → 0 ≤ w k ∧ w k ≤ 100) → 0 ≤ ck cap w z t n ∧ ck cap w z t n ≤ 200000 * n
  | 0, _ => by unfold ck; omega
  | n + 1, hw => by
    obtain ⟨h1, h2⟩ := ck_bd cap w z t c0 c9 n (fun k hk => hw k (by omega))
    obtain ⟨w0, w9⟩ := hw n (by omega)
    have r0 := res0 (z n) t
    have a0 : 0 ≤ w n * min (res (z n) t) cap := Int.mul_nonneg w0 (by omega)
    have a1 : w n * min (res (z n) t) cap ≤ 100 * 2000 := Int.mul_le_mul w9 (by omega) (by omega) (by omega)
    unfold ck; push_cast; omega
/-- Between two neighbouring ends a capped residual is concave. -/
theorem bow (cap : Int) (z : Int × Int) (l r p q : Int) (t : Int) (hc : 0 ≤ cap) (hz : z.1 ≤ z.2) (p0 : 0 ≤ p) (q0 : 0 ≤ q) (hl : l = t - p) (hr : r = t + q) (h1 : z.1 ≤ l ∨ r ≤ z.1) (h2 : z.2 ≤ l ∨ r ≤ z.2) :
    0 ≤ (min (res z t) cap - min (res z l) cap) * q + (min (res z t) cap - min (res z r) cap) * p := by
  subst hl hr
  have key : ∀ x y : Int, -p ≤ x → q ≤ y → 0 ≤ x * q + y * p := fun x y hx hy => by
    have a := Int.mul_le_mul_of_nonneg_right hx q0
    have b := Int.mul_le_mul_of_nonneg_right hy p0
    have e : -p * q + q * p = 0 := by rw [Int.neg_mul, Int.mul_comm p q]; omega
    omega
  have key2 : ∀ x y : Int, p ≤ x → -q ≤ y → 0 ≤ x * q + y * p := fun x y hx hy => by
    have a := Int.mul_le_mul_of_nonneg_right hx q0
    have b := Int.mul_le_mul_of_nonneg_right hy p0
    have e : p * q + -q * p = 0 := by rw [Int.neg_mul, Int.mul_comm p q]; omega
    omega
  have key3 : ∀ x y : Int, 0 ≤ x → 0 ≤ y → 0 ≤ x * q + y * p := fun x y hx hy => by
    have a := Int.mul_nonneg hx q0
    have b := Int.mul_nonneg hy p0
    omega
  unfold res
  by_cases hcap : max (z.1 - t) (max (t - z.2) 0) ≤ cap
  · rcases h1 with h1 | h1
    · rcases h2 with h2 | h2
      · exact key2 _ _ (by omega) (by omega)
      · exact key3 _ _ (by omega) (by omega)
    · exact key _ _ (by omega) (by omega)
  · exact key3 _ _ (by omega) (by omega)
theorem bows (cap : Int) (w : Nat → Int) (z : Nat → Int × Int) (l r p q t : Int) : ∀ n, (∀ k, k < n → 0 ≤ w k) → (∀ k, k < n → 0 ≤ (min (res (z k) t) cap - min (res (z k) l) cap) * q + (min (res (z k) t) cap - min (res (z k) r) cap) * p) →
    0 ≤ (ck cap w z t n - ck cap w z l n) * q + (ck cap w z t n - ck cap w z r n) * p
  | 0, _, _ => by simp [ck]
  | n + 1, hw, h => by
    have ih := bows cap w z l r p q t n (fun k hk => hw k (by omega)) (fun k hk => h k (by omega))
    have h1 := Int.mul_nonneg (hw n (by omega)) (h n (by omega))
    unfold ck
    generalize min (res (z n) t) cap = a at *
    generalize min (res (z n) l) cap = b at *
    generalize min (res (z n) r) cap = c at *
    generalize ck cap w z t n = A at *
    generalize ck cap w z l n = B at *
    generalize ck cap w z r n = C at *
    have e : (A + w n * a - (B + w n * b)) * q + (A + w n * a - (C + w n * c)) * p = ((A - B) * q + (A - C) * p) + w n * ((a - b) * q + (a - c) * p) := by grind
    omega
/-- No time is better than the best end. -/
theorem ends_best {cap : Int} {w : Nat → Int} {z : Nat → Int × Int} {n : Nat} (h : Zw cap w z n) (hn : 0 < n) (t : Int) : ∃ j, j < 2 * n ∧ ck cap w z (cd z j) n ≤ ck cap w z t n := by
  by_cases hc : ∃ j, j < 2 * n ∧ cd z j = t
  · obtain ⟨j, hj, e⟩ := hc
    exact ⟨j, hj, by rw [e]; exact Int.le_refl _⟩
  · have hne : ∀ j, j < 2 * n → cd z j ≠ t := fun j hj e => hc ⟨j, hj, e⟩
    have e1 : ∀ k, k < n → (z k).1 ≠ t := fun k hk => by rw [← cd_even]; exact hne _ (by omega)
    have e2 : ∀ k, k < n → (z k).2 ≠ t := fun k hk => by rw [← cd_odd]; exact hne _ (by omega)
    by_cases hl : ∃ j, j < 2 * n ∧ cd z j < t
    · obtain ⟨jl, l1, l2, l3⟩ := max_below (cd z) t _ hl
      by_cases hr : ∃ j, j < 2 * n ∧ t < cd z j
      · obtain ⟨jr, r1, r2, r3⟩ := min_above (cd z) t _ hr
        have B := bows cap w z (cd z jl) (cd z jr) (t - cd z jl) (cd z jr - t) t n h.w0 fun k hk => by
          refine bow cap (z k) _ _ _ _ t h.c0 (h.le k hk) (by omega) (by omega) (by omega) (by omega) ?_ ?_
          · rcases Int.lt_or_gt_of_ne (e1 k hk) with a | a
            · left; have := l3 (2 * k) (by omega) (by rw [cd_even]; exact a); rw [cd_even] at this; exact this
            · right; have := r3 (2 * k) (by omega) (by rw [cd_even]; exact a); rw [cd_even] at this; exact this
          · rcases Int.lt_or_gt_of_ne (e2 k hk) with a | a
            · left; have := l3 (2 * k + 1) (by omega) (by rw [cd_odd]; exact a); rw [cd_odd] at this; exact this
            · right; have := r3 (2 * k + 1) (by omega) (by rw [cd_odd]; exact a); rw [cd_odd] at this; exact this
        by_cases a : ck cap w z (cd z jl) n ≤ ck cap w z t n
        · exact ⟨jl, l1, a⟩
        · by_cases b : ck cap w z (cd z jr) n ≤ ck cap w z t n
          · exact ⟨jr, r1, b⟩
          · exfalso
            have x1 : (ck cap w z t n - ck cap w z (cd z jl) n) * (cd z jr - t) ≤ -1 * (cd z jr - t) := Int.mul_le_mul_of_nonneg_right (by omega) (by omega)
            have x2 : (ck cap w z t n - ck cap w z (cd z jr) n) * (t - cd z jl) ≤ -1 * (t - cd z jl) := Int.mul_le_mul_of_nonneg_right (by omega) (by omega)
            omega
      · refine ⟨jl, l1, ck_le cap w z z _ _ n h.w0 fun k hk => ?_⟩
        have a1 : (z k).1 < t := by
          rcases Int.lt_or_gt_of_ne (e1 k hk) with a | a
          · exact a
          · exact absurd ⟨2 * k, by omega, by rw [cd_even]; exact a⟩ hr
        have a2 : (z k).2 < t := by
          rcases Int.lt_or_gt_of_ne (e2 k hk) with a | a
          · exact a
          · exact absurd ⟨2 * k + 1, by omega, by rw [cd_odd]; exact a⟩ hr
        have b1 := l3 (2 * k) (by omega) (by rw [cd_even]; exact a1)
        have b2 := l3 (2 * k + 1) (by omega) (by rw [cd_odd]; exact a2)
        rw [cd_even] at b1
        rw [cd_odd] at b2
        unfold res; omega
    · have hr : ∃ j, j < 2 * n ∧ t < cd z j := ⟨0, by omega, by
        have := hne 0 (by omega)
        have h0 : ¬ cd z 0 < t := fun a => hl ⟨0, by omega, a⟩
        omega⟩
      obtain ⟨jr, r1, r2, r3⟩ := min_above (cd z) t _ hr
      refine ⟨jr, r1, ck_le cap w z z _ _ n h.w0 fun k hk => ?_⟩
      have a1 : t < (z k).1 := by
        rcases Int.lt_or_gt_of_ne (e1 k hk) with a | a
        · exact absurd ⟨2 * k, by omega, by rw [cd_even]; exact a⟩ hl
        · exact a
      have a2 : t < (z k).2 := by
        rcases Int.lt_or_gt_of_ne (e2 k hk) with a | a
        · exact absurd ⟨2 * k + 1, by omega, by rw [cd_odd]; exact a⟩ hl
        · exact a
      have b1 := r3 (2 * k) (by omega) (by rw [cd_even]; exact a1)
      have b2 := r3 (2 * k + 1) (by omega) (by rw [cd_odd]; exact a2)
      rw [cd_even] at b1
      rw [cd_odd] at b2
      unfold res; omega
/-- What Best returns. -/
def best (cap : Int) (w : Nat → Int) (z : Nat → Int × Int) (n : Nat) : Int × Int := bst (fun t => ck cap w z t n) (cd z) (2 * n)
structure IsBest (cap : Int) (w : Nat → Int) (z : Nat → Int × Int) (n : Nat) (t m : Int) : Prop where
  at_ : ∃ j, j < 2 * n ∧ t = cd z j
  is : m = ck cap w z t n
  ends : ∀ j, j < 2 * n → m ≤ ck cap w z (cd z j) n ∧ (ck cap w z (cd z j) n = m → t ≤ cd z j)
theorem best_is (cap : Int) (w : Nat → Int) (z : Nat → Int × Int) (n : Nat) (hn : 0 < n) : IsBest cap w z n (best cap w z n).1 (best cap w z n).2 := by
  obtain ⟨j, hj, he, ha⟩ := bst_spec (fun t => ck cap w z t n) (cd z) (2 * n) (by omega)
  unfold best
  rw [he]
  exact ⟨⟨j, hj, rfl⟩, rfl, ha⟩
theorem IsBest.least {cap : Int} {w : Nat → Int} {z : Nat → Int × Int} {n : Nat} {t m : Int} (b : IsBest cap w z n t m) (h : Zw cap w z n) (hn : 0 < n) (t' : Int) : m ≤ ck cap w z t' n := by
  obtain ⟨j, hj, hle⟩ := ends_best h hn t'
  exact Int.le_trans (b.ends j hj).1 hle
end Mis
end Go.Proofs.Ytldgihlhioeipaa
