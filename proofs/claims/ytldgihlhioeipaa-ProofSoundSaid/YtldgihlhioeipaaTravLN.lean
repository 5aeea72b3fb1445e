/- TravLN: texts joined. -/
import Derived.Test.YtldgihlhioeipaaTable
import Derived.Test.YtldgihlhioeipaaTravDR
/- Between at squares, and the beginning of a law on a table. -/
namespace Go.Proofs.Ytldgihlhioeipaa
open Go.RowKit
namespace Trav
theorem idx_lo {s x : Int} {n : Nat} (s1 : 1 ≤ s) (x0 : 0 ≤ x) (hx : x ≤ s * ((n : Int) - 1)) : ∃ q : Nat, (q : Int) = x / s ∧ q < n := by
  have h0 : 0 ≤ x / s := Int.ediv_nonneg x0 (by omega)
  have h1 : x / s < n := (Int.ediv_lt_iff_lt_mul (by omega)).2 (by
    have : (n : Int) * s = s * ((n : Int) - 1) + s := by rw [Int.mul_sub, Int.mul_one, Int.mul_comm]; omega
    omega)
  exact ⟨(x / s).toNat, by omega, by omega⟩
theorem idx_hi {s x : Int} {n : Nat} (s1 : 1 ≤ s) (x0 : 0 ≤ x) (hx : x ≤ s * ((n : Int) - 1)) : ∃ q : Nat, (q : Int) = (x + s - 1) / s ∧ q < n := by
  have h0 : 0 ≤ (x + s - 1) / s := Int.ediv_nonneg (by omega) (by omega)
  have h1 : (x + s - 1) / s < n := (Int.ediv_lt_iff_lt_mul (by omega)).2 (by
    have : (n : Int) * s = s * ((n : Int) - 1) + s := by rw [Int.mul_sub, Int.mul_one, Int.mul_comm]; omega
    omega)
  exact ⟨((x + s - 1) / s).toNat, by omega, by omega⟩
end Trav
end Go.Proofs.Ytldgihlhioeipaa

/- Contract of travel.Interval at a valid table and valid positions. -/
namespace Go.Proofs.Ytldgihlhioeipaa
open Go.RowKit
namespace Trav
theorem bel3 (w : World) (o p q : Obj) : Below w.heap.size w (((w.alloc o).alloc p).alloc q) := Buf.then_ (bel2 o p) (new_block q)
end Trav
end Go.Proofs.Ytldgihlhioeipaa

/- Distances, as the law reads it; the root of a number within the reach. -/
namespace Go.Proofs.Ytldgihlhioeipaa
open Go.RowKit
namespace Trav
theorem ce_le {m r : Int} (m0 : 0 ≤ m) (m9 : m ≤ 4611686018427387904) (r0 : 0 ≤ r) (h : m ≤ r * r) : Root.rt m 32 ≤ Root.ce m ∧ Root.ce m ≤ r := by
  obtain ⟨a0, _, s0, s1⟩ := Root.rt_spec m m0 m9
  unfold Root.ce
  have h1 := Root.sq_le_of a0 (Int.le_trans s0 h) r0
  by_cases hc : Root.rt m 32 * Root.rt m 32 < m
  · rw [if_pos hc]
    refine ⟨by omega, ?_⟩
    by_cases he : Root.rt m 32 = r
    · rw [he] at hc; omega
    · omega
  · rw [if_neg hc]; exact ⟨by omega, h1⟩
end Trav
end Go.Proofs.Ytldgihlhioeipaa
