/- Samples that are pushed in parts: the mathematics of DetectorStream. -/
import Derived.Test.YtbmcmiggifknfaaDoorDetSG
import Derived.Test.YtbmcmiggifknfaaDoorDetP
set_option linter.unusedVariables false
set_option linter.unusedSimpArgs false
namespace Go.Proofs.YtbmcmiggifknfaaDoor
namespace Det
/-- How many values a watch keeps behind n samples. -/
def kept (d : Dt) (n : Nat) : Nat := min n (d.L - 1)
theorem stepG_step (d : Dt) {U V : Nat → Int} {D n : Nat} (hU : ∀ j, U j = V (D + j)) (hS : d.S ≤ d.L) (hD : D + kept d n = n) (hL : 1 ≤ d.L) (k : Nat) (hk : kept d n ≤ k) (e0 e : List Tr) (o : Tr) :
    (e0 ++ (stepG d U (kept d n) D k e o).1, (stepG d U (kept d n) D k e o).2) = step d V (D + k) (e0 ++ e) o := by
  have hV : ∀ j, V (D + j) = U j := fun j => (hU j).symm
  unfold kept at *
  by_cases hw : k + 1 < d.L
  · have hD0 : D = 0 := by omega
    subst hD0
    have h1 : stepG d U (min n (d.L - 1)) 0 k e o = (e, o) := by unfold stepG; rw [if_pos (.inr hw)]
    have h2 : step d V (0 + k) (e0 ++ e) o = (e0 ++ e, o) := by unfold step; rw [if_pos (by omega)]
    rw [h1, h2]
  · have hne : ¬ (k < min n (d.L - 1) ∨ k + 1 < d.L) := by omega
    have hne2 : ¬ (D + k + 1 < d.L) := by omega
    have w1 : win V d.S (D + k) = win U d.S k := win_lead hV d.S k (by omega)
    have w2 : win V d.L (D + k) = win U d.L k := win_lead hV d.L k (by omega)
    unfold stepG step
    rw [if_neg hne, if_neg hne2, w1, w2, hV k]
    have hc : ((D + k : Nat) : Int) = (D : Int) + (k : Int) := by omega
    rw [hc]
    split
    · split
      · rfl
      · rfl
    split
    · rfl
    · simp
/-- Behind n samples m more are pushed. -/
theorem push_scn (d : Dt) {U V : Nat → Int} {D n : Nat} (hU : ∀ j, U j = V (D + j)) (hS : d.S ≤ d.L) (hD : D + kept d n = n) (hL : 1 ≤ d.L) : ∀ m,
    scn d V (n + m) = ((scn d V n).1 ++ (scg d U (kept d n) D (scn d V n).2 (kept d n + m)).1, (scg d U (kept d n) D (scn d V n).2 (kept d n + m)).2) := by
  have h0 : ∀ k, k ≤ kept d n → scg d U (kept d n) D (scn d V n).2 k = ([], (scn d V n).2) := by
    intro k
    induction k with
    | zero => intro _; rfl
    | succ k ih =>
      intro hk
      rw [scg_next (ih (by omega))]
      exact sg_wait _ _ _ _ _ _ _ (.inl (by omega))
  intro m
  induction m with
  | zero => rw [Nat.add_zero, Nat.add_zero, h0 _ (Nat.le_refl _)]; simp
  | succ m ih =>
    rw [show n + (m + 1) = (n + m) + 1 by omega, show kept d n + (m + 1) = (kept d n + m) + 1 by omega]
    rw [show scn d V (n + m + 1) = step d V (n + m) (scn d V (n + m)).1 (scn d V (n + m)).2 from rfl, ih]
    have := stepG_step d hU hS hD hL (kept d n + m) (by omega) (scn d V n).1 (scg d U (kept d n) D (scn d V n).2 (kept d n + m)).1 (scg d U (kept d n) D (scn d V n).2 (kept d n + m)).2
    rw [show D + (kept d n + m) = n + m by omega] at this
    exact this.symm
end Det
end Go.Proofs.YtbmcmiggifknfaaDoor
