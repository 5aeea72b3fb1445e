/- Contracts of package logarithm: Log. -/
import Derived.Test.YtkfjcanipmhanaaLog
namespace Go.Proofs.Ytkfjcanipmhanaa
open Go.RowKit
namespace Log
/-- The first 31 binary digits of a number of k + 1 digits. -/
def mant (n : Int) (k : Nat) : Int := if k ≤ 30 then n * 2 ^ (30 - k) else n / 2 ^ (k - 30)
theorem mant_bd (n : Int) (k : Nat) (h0 : 2 ^ k ≤ n) (h1 : n < 2 ^ (k + 1)) : 1073741824 ≤ mant n k ∧ mant n k < 2147483648 := by
  unfold mant
  split
  · rename_i h
    have hp : (0 : Int) < 2 ^ (30 - k) := Int.pow_pos (by decide)
    constructor
    · have := Int.mul_le_mul_of_nonneg_right h0 (Int.le_of_lt hp)
      rw [← Int.pow_add, show k + (30 - k) = 30 by omega] at this; exact this
    · have := Int.mul_lt_mul_of_pos_right h1 hp
      rw [← Int.pow_add, show k + 1 + (30 - k) = 31 by omega] at this; exact this
  · obtain ⟨a, b⟩ := shr_bd n k (k - 30) (by omega) h0 h1
    rw [show k - (k - 30) = 30 by omega] at a b
    exact ⟨a, b⟩
def logF (n : Int) (k : Nat) : Int := 256 * k + (dg 8 (mant n k)).2
set_option maxHeartbeats 1000000 in
theorem log_any (n : Int) (k : Nat) (w : World) (hk : k ≤ 61) (h0 : 2 ^ k ≤ n) (h1 : n < 2 ^ (k + 1)) :
    Calls Try.prog 8 #[.int .i64 n] w fun e w' => e = .returned (.tuple #[.int .i64 (logF n k), .int .i64 0]) ∧ w' = w := by
  have n0 : 1 ≤ n := by have := (Ma.pow_bd k 61 hk).1; omega
  have n1 : n ≤ 4611686018427387903 := by have := (Ma.pow_bd (k + 1) 62 (by omega)).2; omega
  have L : Hid (∀ w, Calls Try.prog 20 #[.int .u64 n] w fun e w' => e = .returned (.int .i64 (k + 1)) ∧ w' = w) := Lib.hid fun w => len_any n k w hk h0 h1
  obtain ⟨m0, m1⟩ := mant_bd n k h0 h1
  have D : Hid (∀ w, Calls Try.prog 21 #[.int .i64 (mant n k)] w fun e w' => e = .returned (.int .i64 (dg 8 (mant n k)).2) ∧ w' = w) := Lib.hid fun w => digits_any _ w m0 m1
  obtain ⟨_, _, d0, d1⟩ := dg_bd 8 _ m0 m1
  replace d1 : (dg 8 (mant n k)).2 < 256 := d1
  have hF : Hid (logF n k = 256 * k + (dg 8 (mant n k)).2) := Lib.hid rfl
  rw [hF.out]
  generalize (dg 8 (mant n k)).2 = Y at *
  clear h0 h1
  by_cases hc : k ≤ 30
  · have hM : mant n k = n * 2 ^ (30 - k) := if_pos hc
    rw [hM] at D m0 m1
    clear hM hF
    go_enter Try.func8, Try.ntmps8
    go_wp2_with (go_at_call 20; refine (L.out _).mono ?_; rintro e w' ⟨rfl, rfl⟩)
    with_reducible refine (D.out _).mono ?_
    rintro e w2 ⟨rfl, rfl⟩
    go_wp2
    go_ret2
    exact ⟨rfl, rfl⟩
  · have hM : mant n k = n / 2 ^ (k - 30) := if_neg hc
    rw [hM] at D m0 m1
    clear hM hF
    go_enter Try.func8, Try.ntmps8
    go_wp2_with (go_at_call 20; refine (L.out _).mono ?_; rintro e w' ⟨rfl, rfl⟩)
    with_reducible refine (D.out _).mono ?_
    rintro e w2 ⟨rfl, rfl⟩
    go_wp2
    go_ret2
    exact ⟨rfl, rfl⟩
end Log
end Go.Proofs.Ytkfjcanipmhanaa
