/- The walk of LogarithmAdds. -/
import Derived.Test.YtohjdklbdkpmjaaLogP
namespace Go.Proofs.Ytohjdklbdkpmjaa
open Go.RowKit Log
namespace Laws
theorem lg_pow (n : Int) (k : Nat) (Y : Int) (h : LG n k Y) : ∃ N L : Nat, n = N ∧ 256 * (k : Int) + Y = L ∧ 2 ^ L ≤ N ^ 256 ∧ N ^ 256 < 2 ^ (L + 2) := by
  obtain ⟨k1, lo, hi, y0, y1, hy, _⟩ := h
  have n0 : 0 ≤ n := by have := (Ma.pow_bd k 61 k1).1; omega
  obtain ⟨N, rfl⟩ := Int.eq_ofNat_of_zero_le n0
  have lo' : 2 ^ k ≤ N := by exact_mod_cast lo
  have hi' : N < 2 ^ (k + 1) := by exact_mod_cast hi
  obtain ⟨D, rfl, a, b⟩ := log_pow 1073741824 N k Y rfl k1 lo' hi' hy
  exact ⟨N, 256 * k + D, rfl, by simp, a, b⟩
theorem exp_lt {a b : Nat} (h : 2 ^ a < 2 ^ b) : a < b := (Nat.pow_lt_pow_iff_right (by decide)).1 h
theorem adds (a b c : Int) (ka kb kc : Nat) (ya yb yc : Int) (ha : LG a ka ya) (hb : LG b kb yb) (hc : LG c kc yc) (h : c = a * b) :
    256 * (ka : Int) + ya + (256 * kb + yb) ≤ 256 * kc + yc + 1 ∧ 256 * (kc : Int) + yc ≤ 256 * ka + ya + (256 * kb + yb) + 3 := by
  obtain ⟨A, x, rfl, ex, a0, a1⟩ := lg_pow a ka ya ha
  obtain ⟨B, y, rfl, ey, b0, b1⟩ := lg_pow b kb yb hb
  obtain ⟨C, z, rfl, ez, c0, c1⟩ := lg_pow c kc yc hc
  obtain rfl : C = A * B := by exact_mod_cast h
  rw [Nat.mul_pow] at c0 c1
  have h1 : x + y < z + 2 := by
    refine exp_lt (Nat.lt_of_le_of_lt ?_ c1)
    rw [Nat.pow_add]; exact Nat.mul_le_mul a0 b0
  have h2 : z < (x + 2) + (y + 2) := by
    refine exp_lt (Nat.lt_of_le_of_lt c0 ?_)
    rw [Nat.pow_add 2 (x + 2)]
    exact Nat.mul_lt_mul'' a1 b1
  omega
set_option maxHeartbeats 1000000 in
theorem logarithmAdds_walk (a0 : Int) (a1 : Int) (_w0 : (Lit.int .i64 a0).wf = true) (_w1 : (Lit.int .i64 a1).wf = true) (w : World) :
    Calls Try.prog 6 #[.int .i64 a0, .int .i64 a1] w fun e w' => e = .returned (.bool true) ∧ Below w.heap.size w w' := by
  have m0 : 0 ≤ a0 % 2147483647 := by omega
  have m1 : a0 % 2147483647 < 2147483647 := by omega
  have n0 : 0 ≤ a1 % 2147483647 := by omega
  have n1 : a1 % 2147483647 < 2147483647 := by omega
  have M : Hid (∀ w, Calls Try.prog 9 #[.int .i64 a0, .int .i64 2147483647] w fun e w' => e = .returned (.int .i64 (a0 % 2147483647)) ∧ w' = w) := Lib.hid fun w => Keep.mod_any a0 2147483647 w (by omega) (by omega)
  have N : Hid (∀ w, Calls Try.prog 9 #[.int .i64 a1, .int .i64 2147483647] w fun e w' => e = .returned (.int .i64 (a1 % 2147483647)) ∧ w' = w) := Lib.hid fun w => Keep.mod_any a1 2147483647 w (by omega) (by omega)
  generalize a0 % 2147483647 = x at *
  generalize a1 % 2147483647 = y at *
  have p0 : 1 * 1 ≤ (1 + x) * (1 + y) := Int.mul_le_mul (by omega) (by omega) (by omega) (by omega)
  have p1 : (1 + x) * (1 + y) ≤ 2147483647 * 2147483647 := Int.mul_le_mul (by omega) (by omega) (by omega) (by omega)
  obtain ⟨ka, ya, ha⟩ := lg_of (1 + x) (by omega) (by omega)
  obtain ⟨kb, yb, hb⟩ := lg_of (1 + y) (by omega) (by omega)
  obtain ⟨kc, yc, hc⟩ := lg_of ((1 + x) * (1 + y)) (by omega) (by omega)
  obtain ⟨s1, s2⟩ := adds _ _ _ ka kb kc ya yb yc ha hb hc rfl
  have A := Lib.hid ha.calls
  have B := Lib.hid hb.calls
  have C := Lib.hid hc.calls
  obtain ⟨qa, z1a, z2a, ga, ga', z3a, z4a⟩ := ha
  obtain ⟨qb, z1b, z2b, gb, gb', z3b, z4b⟩ := hb
  obtain ⟨qc, z1c, z2c, gc, gc', z3c, z4c⟩ := hc
  clear z1a z2a z3a z4a z1b z2b z3b z4b z1c z2c z3c z4c
  go_enter Try.func6, Try.ntmps6
  go_wp2_with (first
    | (go_at_call 9; (first | with_reducible refine (M.out _).mono ?_ | with_reducible refine (N.out _).mono ?_); rintro e w1 ⟨rfl, rfl⟩)
    | (go_at_call 13; (first | with_reducible refine (A.out _).mono ?_ | with_reducible refine (B.out _).mono ?_ | with_reducible refine (C.out _).mono ?_); rintro e w1 ⟨rfl, rfl⟩)
    | (go_at_call 12; refine (awake_any _).mono ?_; rintro e w1 ⟨rfl, hb⟩))
  go_ret
  exact ⟨rfl, hb⟩
end Laws
end Go.Proofs.Ytohjdklbdkpmjaa
