/- Run's answer hangs on the values in the list alone; absolute values of products. -/
import Derived.Test.YtbmcmiggifknfaaDoorDetM
set_option linter.unusedVariables false
namespace Go.Proofs.YtbmcmiggifknfaaDoor
namespace Det
theorem psum_congr {U V : Nat → Int} {n : Nat} (h : ∀ j, j < n → U j = V j) : ∀ k, k ≤ n → psum U k = psum V k := by
  intro k
  induction k with
  | zero => intro _; rfl
  | succ k ih => intro hk; simp only [psum]; rw [ih (by omega), h k (by omega)]
theorem scn_congr {U V : Nat → Int} {n : Nat} (d : Dt) (h : ∀ j, j < n → U j = V j) : ∀ k, k ≤ n → scn d U k = scn d V k := by
  intro k
  induction k with
  | zero => intro _; rfl
  | succ k ih =>
    intro hk
    show step d U k (scn d U k).1 (scn d U k).2 = step d V k (scn d V k).1 (scn d V k).2
    rw [ih (by omega)]
    have w1 : ∀ S, win U S k = win V S k := fun S => by
      unfold win
      rw [psum_congr h (k + 1) hk, psum_congr h (k + 1 - S) (by omega)]
    unfold step
    rw [w1, w1, h k (by omega)]
theorem runL_congr {U V : Nat → Int} {n : Nat} (d : Dt) (h : ∀ j, j < n → U j = V j) : runL d U n = runL d V n := by
  unfold runL
  rw [scn_congr d h n (Nat.le_refl n)]
theorem abs_mul (x k : Int) : max (x * k) (-(x * k)) = max k (-k) * max x (-x) := by
  rcases Int.le_total 0 x with hx | hx <;> rcases Int.le_total 0 k with hk | hk
  · have := Int.mul_nonneg hx hk
    rw [show max (x * k) (-(x * k)) = x * k by omega, show max x (-x) = x by omega, show max k (-k) = k by omega, Int.mul_comm]
  · have := Int.mul_nonpos_of_nonneg_of_nonpos hx hk
    rw [show max (x * k) (-(x * k)) = -(x * k) by omega, show max x (-x) = x by omega, show max k (-k) = -k by omega]
    grind
  · have := Int.mul_nonpos_of_nonneg_of_nonpos hk hx
    rw [show max (x * k) (-(x * k)) = -(x * k) by rw [Int.mul_comm x k]; omega, show max x (-x) = -x by omega, show max k (-k) = k by omega]
    grind
  · have := Int.mul_nonneg_of_nonpos_of_nonpos hx hk
    rw [show max (x * k) (-(x * k)) = x * k by omega, show max x (-x) = -x by omega, show max k (-k) = -k by omega]
    grind
theorem abs_flat (m r : Int) (hm : 0 ≤ m) (hr : r = 0 ∨ r = 1) : max (m * (1 - 2 * r)) (-(m * (1 - 2 * r))) = m := by
  rcases hr with rfl | rfl
  · rw [show m * (1 - 2 * 0) = m by omega]; omega
  · rw [show m * (1 - 2 * 1) = -m by omega]; omega
end Det
end Go.Proofs.YtbmcmiggifknfaaDoor
