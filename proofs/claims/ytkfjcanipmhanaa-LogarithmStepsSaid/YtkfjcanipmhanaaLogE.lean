/- Log at every number; LogNat at a number that is not 0. -/
import Derived.Test.YtkfjcanipmhanaaLogM
import Derived.Test.YtkfjcanipmhanaaBack
set_option linter.unusedVariables false
namespace Go.Proofs.Ytkfjcanipmhanaa
open Go.RowKit
namespace Log
set_option maxRecDepth 100000 in
theorem len64_62 (n : Int) (w : World) (h0 : 4611686018427387904 ≤ n) (h1 : n ≤ 9223372036854775807) :
    Calls Try.prog 29 #[.int .u64 n] w fun e w' => e = .returned (.int .i64 63) ∧ w' = w := by
  have q0 : 2 ^ 6 ≤ n / 4294967296 / 65536 / 256 := by show (64 : Int) ≤ _; omega
  have q1 : n / 4294967296 / 65536 / 256 < 2 ^ (6 + 1) := by show _ < (128 : Int); omega
  obtain ⟨r, hr, hx⟩ := split_pow _ 6 q0 q1
  have T := tab_at 6 r (by omega) hr
  have x0 : 0 ≤ n / 4294967296 / 65536 / 256 := by omega
  have x1 : n / 4294967296 / 65536 / 256 ≤ 255 := by have : (2 : Int) ^ (6 + 1) = 128 := by decide
                                                     omega
  have hm : Hid ((n / 4294967296 / 65536 / 256).toNat = 2 ^ 6 + r) := by show (n / 4294967296 / 65536 / 256).toNat = _; omega
  rw [← hm.out] at T
  clear hr hx hm q0 q1
  go_enter Try.func29, Try.ntmps29
  go_wp2
  go_ret
  refine ⟨ret1 ?_, rfl⟩
  rw [T]
  rw [IntWalk.wrap64_in ((6 + 1 : Nat) : Int) ⟨by omega, by omega⟩]
  rw [IntWalk.wrap64_in _ ⟨by omega, by omega⟩]
  omega
theorem len_62 (n : Int) (w : World) (h0 : 4611686018427387904 ≤ n) (h1 : n ≤ 9223372036854775807) :
    Calls Try.prog 20 #[.int .u64 n] w fun e w' => e = .returned (.int .i64 63) ∧ w' = w := by
  have L : Hid (∀ w, Calls Try.prog 29 #[.int .u64 n] w fun e w' => e = .returned (.int .i64 63) ∧ w' = w) := Lib.hid fun w => len64_62 n w h0 h1
  clear h0 h1
  go_enter Try.func20, Try.ntmps20
  go_wp2_with fail
  refine (L.out _).mono ?_
  rintro e w' ⟨rfl, rfl⟩
  go_wp2
  go_ret
  exact ⟨rfl, rfl⟩
set_option maxRecDepth 100000 in
set_option maxHeartbeats 1000000 in
theorem log_62 (n : Int) (w : World) (h0 : 4611686018427387904 ≤ n) (h1 : n ≤ 9223372036854775807) :
    Calls Try.prog 8 #[.int .i64 n] w fun e w' => e = .returned (.tuple #[.int .i64 (logF n 62), .int .i64 0]) ∧ w' = w := by
  have L : Hid (∀ w, Calls Try.prog 20 #[.int .u64 n] w fun e w' => e = .returned (.int .i64 63) ∧ w' = w) := Lib.hid fun w => len_62 n w h0 h1
  have hM : mant n 62 = n / 4294967296 := by unfold mant; rw [if_neg (by omega)]; rfl
  have m0 : 1073741824 ≤ mant n 62 := by rw [hM]; omega
  have m1 : mant n 62 < 2147483648 := by rw [hM]; omega
  have D : Hid (∀ w, Calls Try.prog 21 #[.int .i64 (mant n 62)] w fun e w' => e = .returned (.int .i64 (dg 8 (mant n 62)).2) ∧ w' = w) := Lib.hid fun w => digits_any _ w m0 m1
  obtain ⟨_, _, d0, d1⟩ := dg_bd 8 _ m0 m1
  replace d1 : (dg 8 (mant n 62)).2 < 256 := d1
  have hF : Hid (logF n 62 = 256 * 62 + (dg 8 (mant n 62)).2) := Lib.hid rfl
  rw [hF.out]
  generalize (dg 8 (mant n 62)).2 = Y at *
  rw [hM] at D m0 m1
  clear hM hF
  go_enter Try.func8, Try.ntmps8
  go_wp2_with (go_at_call 20; refine (L.out _).mono ?_; rintro e w' ⟨rfl, rfl⟩)
  with_reducible refine (D.out _).mono ?_
  rintro e w2 ⟨rfl, rfl⟩
  go_wp2
  go_ret2
  exact ⟨rfl, rfl⟩
/-- What Log answers, also at the greatest numbers. -/
structure LX (n : Int) (k : Nat) (Y : Int) : Prop where
  k1 : k ≤ 62
  lo : 2 ^ k ≤ n
  hi : n < 2 ^ (k + 1)
  y0 : 0 ≤ Y
  y1 : Y ≤ 255
  y : Y = (dg 8 (mant n k)).2
  calls : ∀ w, Calls Try.prog 8 #[.int .i64 n] w fun e w' => e = .returned (.tuple #[.int .i64 (256 * k + Y), .int .i64 0]) ∧ w' = w
set_option maxRecDepth 100000 in
theorem lx_of (n : Int) (h : 1 ≤ n) (h2 : n ≤ 9223372036854775807) : ∃ k Y, LX n k Y := by
  by_cases hc : n ≤ 4611686018427387903
  · obtain ⟨k, Y, g⟩ := lg_of n h hc
    exact ⟨k, Y, ⟨by have := g.k1; omega, g.lo, g.hi, g.y0, g.y1, g.y, g.calls⟩⟩
  · have a : (2 : Int) ^ 62 ≤ n := by show (4611686018427387904 : Int) ≤ n; omega
    have b : n < 2 ^ (62 + 1) := by show n < (9223372036854775808 : Int); omega
    obtain ⟨m0, m1⟩ := mant_bd n 62 a b
    obtain ⟨_, _, d0, d1⟩ := dg_bd 8 _ m0 m1
    replace d1 : (dg 8 (mant n 62)).2 < 256 := d1
    exact ⟨62, _, Nat.le_refl _, a, b, d0, by omega, rfl, fun w => log_62 n w (by omega) h2⟩
theorem k_same {n : Int} {k j : Nat} (a : 2 ^ k ≤ n) (b : n < 2 ^ (k + 1)) (c : 2 ^ j ≤ n) (d : n < 2 ^ (j + 1)) : k = j := by
  rcases Nat.lt_trichotomy k j with h | h | h
  · have := (Ma.pow_bd (k + 1) j (by omega)).2; omega
  · exact h
  · have := (Ma.pow_bd (j + 1) k (by omega)).2; omega
/-- Thirty digits more. -/
theorem lx_more {n : Int} {k j : Nat} {Y Z : Int} (h : LX n k Y) (n9 : n ≤ 1073741823) (g : LX (n * 1073741824) j Z) : j = k + 30 ∧ Z = Y := by
  have p30 : (2 : Int) ^ 30 = 1073741824 := by decide
  have a := h.lo
  have b := h.hi
  have e1 : (2 : Int) ^ (k + 30) = 2 ^ k * 1073741824 := by rw [Int.pow_add, p30]
  have e2 : (2 : Int) ^ (k + 30 + 1) = 2 ^ (k + 1) * 1073741824 := by rw [show k + 30 + 1 = k + 1 + 30 by omega, Int.pow_add, p30]
  have hj : k + 30 = j := k_same (n := n * 1073741824) (by rw [e1]; omega) (by rw [e2]; omega) g.lo g.hi
  subst hj
  refine ⟨rfl, ?_⟩
  have hk : k ≤ 29 := by
    by_cases hk : k ≤ 29
    · exact hk
    · have h1 := (Ma.pow_bd 30 k (by omega)).2
      rw [p30] at h1; omega
  have hm : mant (n * 1073741824) (k + 30) = mant n k := by
    unfold mant
    rw [if_pos (by omega : k ≤ 30)]
    by_cases h0 : k = 0
    · subst h0; rw [if_pos (by omega)]; show n * 1073741824 * 1 = n * 1073741824; omega
    · rw [if_neg (by omega), show k + 30 - 30 = k by omega]
      have e3 : n * 1073741824 = n * 2 ^ (30 - k) * 2 ^ k := by rw [Int.mul_assoc, ← Int.pow_add, show 30 - k + k = 30 by omega, p30]
      rw [e3]
      exact Int.mul_ediv_cancel _ (by have := (Ma.pow_bd k k (Nat.le_refl _)).1; omega)
  rw [g.y, h.y, hm]
/-- Thirty digits less. -/
theorem lx_less {n : Int} {k j : Nat} {Y Z : Int} (h : LX n k Y) (n0 : 1152921504606846976 ≤ n) (g : LX (n / 1073741824) j Z) : k = j + 30 ∧ Z = Y := by
  have p30 : (2 : Int) ^ 30 = 1073741824 := by decide
  have a := h.lo
  have b := h.hi
  have c := g.lo
  have d := g.hi
  have e1 : (2 : Int) ^ (j + 30) = 2 ^ j * 1073741824 := by rw [Int.pow_add, p30]
  have e2 : (2 : Int) ^ (j + 30 + 1) = 2 ^ (j + 1) * 1073741824 := by rw [show j + 30 + 1 = j + 1 + 30 by omega, Int.pow_add, p30]
  have hj : k = j + 30 := k_same (n := n) a b (by rw [e1]; omega) (by rw [e2]; omega)
  subst hj
  refine ⟨rfl, ?_⟩
  have hj : 30 ≤ j := by
    by_cases hj : 30 ≤ j
    · exact hj
    · have h1 := (Ma.pow_bd (j + 1) 30 (by omega)).2
      rw [p30] at h1; omega
  have hm : mant (n / 1073741824) j = mant n (j + 30) := by
    unfold mant
    rw [if_neg (by omega : ¬ j + 30 ≤ 30), show j + 30 - 30 = j by omega]
    by_cases h0 : j = 30
    · subst h0; rw [if_pos (by omega)]; show n / 1073741824 * 1 = n / 1073741824; omega
    · rw [if_neg (by omega), ← p30, Int.ediv_ediv_of_nonneg (by decide), ← Int.pow_add, show 30 + (j - 30) = j by omega]
  rw [g.y, h.y, hm]
end Log
end Go.Proofs.Ytkfjcanipmhanaa
