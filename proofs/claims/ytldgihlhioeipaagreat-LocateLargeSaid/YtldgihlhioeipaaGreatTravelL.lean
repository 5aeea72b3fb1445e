/- Between at squares, and the beginning of a law on a table. -/
import Derived.Test.YtldgihlhioeipaaGreatTable
import Derived.Test.YtldgihlhioeipaaGreatTravelE
namespace Go.Proofs.YtldgihlhioeipaaGreat
open Go.RowKit
namespace Trav
theorem reach_small {s : Int} {n : Nat} (s9 : s ≤ 100) (n2 : 2 ≤ n) (n9 : n ≤ 23) : s * ((n : Int) - 1) ≤ 2200 := by
  have : s * ((n : Int) - 1) ≤ 100 * 22 := Int.mul_le_mul s9 (by omega) (by omega) (by decide)
  omega
theorem idx_lo {s x : Int} {n : Nat} (s1 : 1 ≤ s) (x0 : 0 ≤ x) (hx : x ≤ s * ((n : Int) - 1)) : ∃ q : Nat, (q : Int) = x / s ∧ q < n := by
  have h0 : 0 ≤ x / s := Int.ediv_nonneg x0 (by omega)
  have h1 : x / s < n := (Int.ediv_lt_iff_lt_mul (by omega)).2 (by
    have : (n : Int) * s = s * ((n : Int) - 1) + s := by rw [Int.mul_sub, Int.mul_one, Int.mul_comm]; omega
    omega)
  exact ⟨(x / s).toNat, by omega, by omega⟩
theorem idx_hi {s x : Int} {n : Nat} (s1 : 1 ≤ s) (x0 : 0 ≤ x) (hx : x ≤ s * ((n : Int) - 1)) : ∃ q : Nat, (q : Int) = (x + s - 1) / s ∧ q < n := by
  have h0 : 0 ≤ (x + s - 1) / s := Int.ediv_nonneg (by omega) (by omega)
  have h1 : (x + s - 1) / s < n := (Int.ediv_lt_iff_lt_mul (by omega)).2 (by
    have : (n : Int) * s = s * ((n : Int) - 1) + s := by rw [Int.mul_sub, Int.mul_one, Int.mul_comm]; omega
    omega)
  exact ⟨((x + s - 1) / s).toNat, by omega, by omega⟩
theorem sq_small {x : Int} (x0 : 0 ≤ x) (x9 : x ≤ 2200) : 0 ≤ x * x ∧ x * x ≤ 4840000 :=
  ⟨Int.mul_nonneg x0 x0, Int.le_trans (Int.mul_le_mul x9 x9 x0 (by decide)) (by decide)⟩
theorem sq_mono {x y : Int} (x0 : 0 ≤ x) (h : x ≤ y) : x * x ≤ y * y := Int.mul_le_mul h h x0 (by omega)
set_option maxRecDepth 100000 in
/-- Between at the squares of two distances. -/
theorem between_sq (s : Int) (b1 b2 n c1 c2 : Nat) (lo hi : List Int) (x y : Int) (q1 q2 : Nat) (w : World) (h : TV w s b1 b2 n lo hi) (x0 : 0 ≤ x) (xy : x ≤ y) (y9 : y ≤ 2200) (hr : y ≤ s * ((n : Int) - 1)) (h1 : (q1 : Int) = x / s) (h2 : (q2 : Int) = (y + s - 1) / s) :
    Calls Tryz.prog 79 #[.agg #[.int .i64 s, .slice (some ⟨b1, 0, none⟩) n c1, .slice (some ⟨b2, 0, none⟩) n c2], .int .i64 (x * x), .int .i64 (y * y)] w fun r w' => r = .returned (.tuple #[.int .i64 (lo.getD q1 0), .int .i64 (hi.getD q2 0), .int .i64 0]) ∧ Below w.heap.size w w' := by
  have e1 := rt_sq (x := x) x0 (by omega)
  have e2 := ce_sq (x := y) (by omega) (by omega)
  exact between_ok s b1 b2 n c1 c2 lo hi (x * x) (y * y) q1 q2 w h (sq_small x0 (by omega)).1 (sq_mono x0 xy) (by have := (sq_small (x := y) (by omega) y9).2; omega) (by rw [e2]; exact hr) (by rw [e1]; exact h1) (by rw [e2]; exact h2)
end Trav
end Go.Proofs.YtldgihlhioeipaaGreat
