/- The number of binary digits, and what Log answers for every number. -/
import Derived.Test.YtkfjcanipmhanaaLogC
namespace Go.Proofs.Ytkfjcanipmhanaa
open Go.RowKit
namespace Log
theorem lg_spec (n : Int) (h : 1 ≤ n) : ∃ k : Nat, 2 ^ k ≤ n ∧ n < 2 ^ (k + 1) := by
  obtain ⟨m, rfl⟩ := Int.eq_ofNat_of_zero_le (show 0 ≤ n by omega)
  refine ⟨Nat.log2 m, ?_, ?_⟩
  · have := Nat.log2_self_le (n := m) (by omega)
    exact_mod_cast this
  · have := Nat.lt_log2_self (n := m)
    exact_mod_cast this
/-- What Log answers. -/
structure LG (n : Int) (k : Nat) (Y : Int) : Prop where
  k1 : k ≤ 61
  lo : 2 ^ k ≤ n
  hi : n < 2 ^ (k + 1)
  y0 : 0 ≤ Y
  y1 : Y ≤ 255
  y : Y = (dg 8 (mant n k)).2
  calls : ∀ w, Calls Try.prog 8 #[.int .i64 n] w fun e w' => e = .returned (.tuple #[.int .i64 (256 * k + Y), .int .i64 0]) ∧ w' = w
theorem lg_of (n : Int) (h : 1 ≤ n) (h2 : n ≤ 4611686018427387903) : ∃ k Y, LG n k Y := by
  obtain ⟨k, a, b⟩ := lg_spec n h
  have hk : k ≤ 61 := by
    by_cases hk : k ≤ 61
    · exact hk
    · have := (Ma.pow_bd 62 k (by omega)).2; omega
  obtain ⟨m0, m1⟩ := mant_bd n k a b
  obtain ⟨_, _, d0, d1⟩ := dg_bd 8 _ m0 m1
  replace d1 : (dg 8 (mant n k)).2 < 256 := d1
  exact ⟨k, _, hk, a, b, d0, by omega, rfl, fun w => log_any n k w hk a b⟩
end Log
end Go.Proofs.Ytkfjcanipmhanaa
