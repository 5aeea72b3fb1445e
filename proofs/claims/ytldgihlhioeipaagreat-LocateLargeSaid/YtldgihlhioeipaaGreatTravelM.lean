/- Distances, as the law reads it; the root of a number within the reach. -/
import Derived.Test.YtldgihlhioeipaaGreatTravelL
namespace Go.Proofs.YtldgihlhioeipaaGreat
open Go.RowKit
namespace Trav
theorem ce_le {m r : Int} (m0 : 0 ≤ m) (m9 : m ≤ 4611686018427387904) (r0 : 0 ≤ r) (h : m ≤ r * r) : Root.rt m 32 ≤ Root.ce m ∧ Root.ce m ≤ r := by
  obtain ⟨a0, _, s0, s1⟩ := Root.rt_spec m m0 m9
  unfold Root.ce
  have h1 := Root.sq_le_of a0 (Int.le_trans s0 h) r0
  by_cases hc : Root.rt m 32 * Root.rt m 32 < m
  · rw [if_pos hc]
    refine ⟨by omega, ?_⟩
    by_cases he : Root.rt m 32 = r
    · rw [he] at hc; omega
    · omega
  · rw [if_neg hc]; exact ⟨by omega, h1⟩
def InD (lo hi : List Int) (s time d : Int) : Prop := ∀ q1 q2 : Nat, (q1 : Int) = d / s → (q2 : Int) = (d + s - 1) / s → lo.getD q1 0 ≤ time ∧ time ≤ hi.getD q2 0
end Trav
end Go.Proofs.YtldgihlhioeipaaGreat
