/- Plain facts on the times of samples, for the walks. -/
import Derived.Test.YtgckppkfpccanaaRateBN
namespace Go.Proofs.Ytgckppkfpccanaa
open Go.RowKit Dice Rate
namespace Laws
theorem el_step (n d k : Int) (h : RV n d) : 1 ≤ d * 1000000 / n ∧ (el n d (k + 1) = el n d k + d * 1000000 / n ∨ el n d (k + 1) = el n d k + d * 1000000 / n + 1) := by
  obtain ⟨n1, n2, d1, d2, _⟩ := h
  have hn : n ≠ 0 := by omega
  constructor
  · exact (Int.le_ediv_iff_mul_le (by omega)).2 (by omega)
  · unfold el
    generalize d * 1000000 = c
    have e : (k + 1) * c = (k * c % n + c % n) + n * (k * c / n + c / n) := by
      have h1 := Int.mul_ediv_add_emod (k * c) n
      have h2 := Int.mul_ediv_add_emod c n
      rw [Int.mul_add n, Int.add_mul, Int.one_mul]
      omega
    rw [e, Int.add_mul_ediv_left _ _ hn]
    have a0 := Int.emod_nonneg (k * c) hn
    have a1 := Int.emod_lt_of_pos (k * c) (show 0 < n by omega)
    have b0 := Int.emod_nonneg c hn
    have b1 := Int.emod_lt_of_pos c (show 0 < n by omega)
    generalize k * c % n = x at *
    generalize c % n = y at *
    by_cases hx : x + y < n
    · rw [Int.ediv_eq_zero_of_lt (by omega) hx]; omega
    · have : (x + y) / n = 1 := by
        have := Int.add_mul_ediv_left (x + y - n) 1 hn
        rw [Int.mul_one, Int.sub_add_cancel] at this
        rw [this, Int.ediv_eq_zero_of_lt (by omega) (by omega)]; rfl
      omega
theorem el_num (n d k : Int) (h : RV n d) : el n d (k + n) = el n d k + d * 1000000 := by
  obtain ⟨n1, n2, d1, d2, _⟩ := h
  unfold el
  rw [Int.add_mul, Int.add_mul_ediv_left _ _ (by omega)]
theorem el_small (n d k : Int) (n1 : 1 ≤ n) (d1 : 1 ≤ d) (d2 : d ≤ 4096) (k0 : 0 ≤ k) (k1 : k ≤ 65536) : 0 ≤ el n d k ∧ el n d k ≤ 268435456000000 := by
  have m0 : 0 ≤ k * (d * 1000000) := Int.mul_nonneg k0 (by omega)
  have m1 : k * (d * 1000000) ≤ 65536 * 4096000000 := Int.mul_le_mul k1 (by omega) (by omega) (by omega)
  refine ⟨Int.ediv_nonneg m0 (by omega), ?_⟩
  have := Int.ediv_le_self n m0
  unfold el; omega
theorem el_zero (n d : Int) : el n d 0 = 0 := by unfold el; rw [Int.zero_mul, Int.zero_ediv]
end Laws
end Go.Proofs.Ytgckppkfpccanaa
