/- What the program and the reference of layer 31 answer, at any number and at any slice. -/
import Derived.Test.YtkfjcanipmhanaaBackG
set_option linter.unusedVariables false
namespace Go.Proofs.Ytkfjcanipmhanaa
open Go.RowKit
namespace Log
open Nat'
set_option maxHeartbeats 1000000 in
theorem rsteps_any (c m : Int) (w : World) (c0 : 0 ≤ c) (c9 : c ≤ 10000) (h0 : 1073741824 ≤ m) (h1 : m < 2147483648) :
    Calls Try.prog 23 #[.int .i64 c, .int .i64 m] w fun e w' => e = .returned (.int .i64 (256 * c + (dg 8 m).2)) ∧ w' = w := by
  go_enter Try.func23, Try.ntmps23
  go_wp2
  go_loop [1, 5, 6] (fun u v i => ∃ k : Nat, k ≤ 8 ∧ i = .int .i64 k ∧ ∃ x y : Int, u = .int .i64 x ∧ v = .int .i64 y ∧ Hid (dg k m = (x, y))) (fun _ _ i => (8 - intOf i).toNat)
  case atStart => exact ⟨0, by omega, rfl, m, 0, rfl, rfl, rfl⟩
  case round =>
    obtain ⟨k, hk, rfl, x, y, rfl, rfl, hd⟩ := hrel
    have hb := dg_bd k m h0 h1
    rw [hd.out] at hb
    obtain ⟨a, b, c', d⟩ := hb
    by_cases hlt : k < 8
    · have hp : (2 : Int) ^ k ≤ 2 ^ 7 := (Ma.pow_bd k 7 (by omega)).2
      have d' : y < 128 := by simp only [] at d; omega
      simp only [] at a b c'
      obtain ⟨s0, s1⟩ := sq_bd x a b
      have hs : Hid (dg (k + 1) m = (stepM x, stepD x y)) := by
        show dg (k + 1) m = _
        unfold dg; rw [hd.out]
      clear d hp
      by_cases hq : x * x / 1073741824 < 2147483648
      · have hs' : Hid (dg (k + 1) m = (x * x / 1073741824, y * 2)) := by
          rw [hs.out]; unfold stepM stepD; rw [if_pos hq, if_pos hq]; exact Lib.hid rfl
        clear hs
        go_wp2
        go_round
        case rel => exact ⟨k + 1, by omega, by go_num, _, _, rfl, rfl, hs'⟩
        case measure => simp [intOf]; omega
      · have hs' : Hid (dg (k + 1) m = (x * x / 1073741824 / 2, y * 2 + 1)) := by
          rw [hs.out]; unfold stepM stepD; rw [if_neg hq, if_neg hq]; exact Lib.hid rfl
        clear hs
        go_wp2
        go_round
        case rel => exact ⟨k + 1, by omega, by go_num, _, _, rfl, rfl, hs'⟩
        case measure => simp [intOf]; omega
    · obtain rfl : k = 8 := by omega
      have hr : Hid ((dg 8 m).2 = y) := by rw [hd.out]; exact Lib.hid rfl
      have d' : y < 256 := d
      simp only [] at c'
      go_wp2
      go_ret
      exact ⟨ret1 (by rw [hr.out]), rfl⟩
set_option maxRecDepth 100000 in
set_option maxHeartbeats 1000000 in
theorem rdigits_any (n : Int) (k : Nat) (w : World) (hk : k ≤ 62) (h0 : 2 ^ k ≤ n) (h1 : n < 2 ^ (k + 1)) (h9 : n ≤ 9223372036854775807) :
    Calls Try.prog 22 #[.int .i64 n] w fun e w' => e = .returned (.int .i64 ((k : Int) + 1)) ∧ w' = w := by
  have p0 : Hid (∀ j, j ≤ k → 1 ≤ n / 2 ^ j) := Lib.hid fun j hj => by
    have hp := (Ma.pow_bd j k hj)
    exact (Int.le_ediv_iff_mul_le (by omega)).2 (by omega)
  have p1 : Hid (n / 2 ^ (k + 1) = 0) := Lib.hid (Int.ediv_eq_zero_of_lt (by have := (Ma.pow_bd 0 k (by omega)).1; have := (Ma.pow_bd k k (by omega)).1; omega) h1)
  have p2 : Hid (∀ j, n / 2 ^ j / 2 = n / 2 ^ (j + 1)) := Lib.hid fun j => by rw [Int.pow_succ, Int.ediv_ediv_of_nonneg (Int.le_of_lt (Int.pow_pos (by decide)))]
  have p3 : Hid (∀ j, n / 2 ^ j ≤ 9223372036854775807) := Lib.hid fun j => by
    have hn : 0 ≤ n := by have := (Ma.pow_bd k k (by omega)).1; omega
    exact Int.le_trans (Int.ediv_le_self _ hn) h9
  have p4 : n / 2 ^ 0 = n := by rw [Int.pow_zero, Int.ediv_one]
  clear h0 h1
  go_enter Try.func22, Try.ntmps22
  go_wp2
  go_loop [0, 3] (fun u i => ∃ j : Nat, j ≤ k + 1 ∧ i = .int .i64 j ∧ u = .int .i64 (n / 2 ^ j)) (fun _ i => (k + 1 - (intOf i)).toNat)
  case atStart => exact ⟨0, by omega, rfl, by rw [p4]⟩
  case round =>
    clear p4
    obtain ⟨j, hj, rfl, rfl⟩ := hrel
    by_cases hlt : j ≤ k
    · have q0 := p0.out j hlt
      have q9 := p3.out j
      have q2 := Lib.hid (p2.out j)
      generalize n / 2 ^ j = p at *
      have q1 : 0 < p := by omega
      go_wp2
      go_round
      case rel => exact ⟨j + 1, by omega, by go_num, by rw [q2.out]⟩
      case measure => simp [intOf]; omega
    · obtain rfl : j = k + 1 := by omega
      rw [p1.out]
      have e : ((k + 1 : Nat) : Int) = (k : Int) + 1 := by omega
      rw [e]
      go_wp2
      go_ret
      exact ⟨rfl, rfl⟩
/-- The same answer of both. -/
def LogSame (n x y : Int) : Prop :=
  (∀ w, Calls Try.prog 8 #[.int .i64 n] w fun e w' => e = .returned (.tuple #[.int .i64 x, .int .i64 y]) ∧ w' = w) ∧
  ∀ w, Calls Try.prog 9 #[.int .i64 n] w fun e w' => e = .returned (.tuple #[.int .i64 x, .int .i64 y]) ∧ w' = w
theorem rlog_any {n : Int} {k : Nat} {Y : Int} (h : LX n k Y) (h9 : n ≤ 9223372036854775807) (w : World) :
    Calls Try.prog 9 #[.int .i64 n] w fun e w' => e = .returned (.tuple #[.int .i64 (256 * k + Y), .int .i64 0]) ∧ w' = w := by
  obtain ⟨m0, m1⟩ := mant_bd n k h.lo h.hi
  have n1 : 1 ≤ n := by have := h.lo; have := (Ma.pow_bd k k (by omega)).1; omega
  have k1 := h.k1
  have D := Lib.hid fun w => rdigits_any n k w k1 h.lo h.hi h9
  have S : Hid (∀ w, Calls Try.prog 23 #[.int .i64 k, .int .i64 (mant n k)] w fun e w' => e = .returned (.int .i64 (256 * k + Y)) ∧ w' = w) := Lib.hid fun w => by
    rw [h.y]; exact rsteps_any k _ w (by omega) (by omega) m0 m1
  clear h
  by_cases hc : k ≤ 30
  · have hM : mant n k = n * 2 ^ (30 - k) := if_pos hc
    rw [hM] at S m0 m1
    clear hM
    go_enter Try.func9, Try.ntmps9
    go_wp2_with (go_at_call 22; refine (D.out _).mono ?_; rintro e w' ⟨rfl, rfl⟩)
    with_reducible refine (S.out _).mono ?_
    rintro e w2 ⟨rfl, rfl⟩
    go_wp2
    go_ret2
    exact ⟨rfl, rfl⟩
  · have hM : mant n k = n / 2 ^ (k - 30) := if_neg hc
    rw [hM] at S m0 m1
    clear hM
    go_enter Try.func9, Try.ntmps9
    go_wp2_with (go_at_call 22; refine (D.out _).mono ?_; rintro e w' ⟨rfl, rfl⟩)
    with_reducible refine (S.out _).mono ?_
    rintro e w2 ⟨rfl, rfl⟩
    go_wp2
    go_ret2
    exact ⟨rfl, rfl⟩
theorem log_same (n : Int) (h9 : n ≤ 9223372036854775807) : ∃ x y, LogSame n x y := by
  by_cases h1 : n < 1
  · refine ⟨0, 2, fun w => ?_, fun w => ?_⟩
    · go_enter Try.func8, Try.ntmps8
      go_wp2
      go_ret2
      exact ⟨rfl, rfl⟩
    · go_enter Try.func9, Try.ntmps9
      go_wp2
      go_ret2
      exact ⟨rfl, rfl⟩
  · obtain ⟨k, Y, h⟩ := lx_of n (by omega) h9
    exact ⟨_, _, h.calls, fun w => rlog_any h h9 w⟩
theorem rfloor_in (l : Int) (w : World) (h0 : -16777216 ≤ l) (h1 : l ≤ 16777216) :
    Calls Try.prog 11 #[.int .i64 l] w fun e w' => e = .returned (.int .i64 (l * 30103 / 256000)) ∧ w' = w := by
  by_cases hn : 0 ≤ l
  · have g0 : 0 ≤ l * 30103 := by omega
    have g1 : l * 30103 ≤ 1000000000000 := by omega
    have g2 : ¬ (l * 30103 < l * 30103 / 256000 * 256000) := by omega
    go_enter Try.func11, Try.ntmps11
    go_wp2
    go_ret
    exact ⟨rfl, rfl⟩
  · have e : (l * 30103).tdiv 256000 = -(-(l * 30103) / 256000) := by
      have := Int.tdiv_eq_ediv_of_nonneg (a := -(l * 30103)) (b := 256000) (by omega)
      rw [Int.neg_tdiv] at this; omega
    have g1 : -1000000000000 ≤ l * 30103 := by omega
    have g9 : l * 30103 ≤ 0 := by omega
    by_cases hz : -(l * 30103) % 256000 = 0
    · have hq : Hid (l * 30103 / 256000 = -(-(l * 30103) / 256000)) := by show _ = _; omega
      have hd : ¬ (l * 30103 < -(-(l * 30103) / 256000) * 256000) := by omega
      rw [hq.out]
      have g0 : 0 ≤ -(l * 30103) / 256000 := by omega
      have g2 : -(l * 30103) / 256000 ≤ 10000000 := by omega
      clear hz hq
      generalize -(l * 30103) / 256000 = q at *
      go_enter Try.func11, Try.ntmps11
      go_wp2
      go_ret
      exact ⟨rfl, rfl⟩
    · have hq : Hid (l * 30103 / 256000 = -(-(l * 30103) / 256000) - 1) := by show _ = _; omega
      have hd : l * 30103 < -(-(l * 30103) / 256000) * 256000 := by omega
      rw [hq.out]
      have g0 : 0 ≤ -(l * 30103) / 256000 := by omega
      have g2 : -(l * 30103) / 256000 ≤ 10000000 := by omega
      clear hz hq
      generalize -(l * 30103) / 256000 = q at *
      go_enter Try.func11, Try.ntmps11
      go_wp2
      go_ret
      exact ⟨rfl, rfl⟩
theorem rfloor_out (l : Int) (w : World) (h : l < -16777216 ∨ 16777216 < l) :
    Calls Try.prog 11 #[.int .i64 l] w fun e w' => e = .returned (.int .i64 0) ∧ w' = w := by
  rcases h with h | h
  · go_enter Try.func11, Try.ntmps11
    go_wp2
    go_ret
    exact ⟨rfl, rfl⟩
  · have h2 : ¬ l < -16777216 := by omega
    go_enter Try.func11, Try.ntmps11
    go_wp2
    go_ret
    exact ⟨rfl, rfl⟩
theorem floor_out (l : Int) (w : World) (h : l < -16777216 ∨ 16777216 < l) :
    Calls Try.prog 10 #[.int .i64 l] w fun e w' => e = .returned (.int .i64 0) ∧ w' = w := by
  rcases h with h | h
  · go_enter Try.func10, Try.ntmps10
    go_wp2
    go_ret
    exact ⟨rfl, rfl⟩
  · have h2 : ¬ l < -16777216 := by omega
    go_enter Try.func10, Try.ntmps10
    go_wp2
    go_ret
    exact ⟨rfl, rfl⟩
theorem ceil_out (l : Int) (w : World) (h : l < -16777216 ∨ 16777216 < l) :
    Calls Try.prog 12 #[.int .i64 l] w fun e w' => e = .returned (.int .i64 0) ∧ w' = w := by
  rcases h with h | h
  · go_enter Try.func12, Try.ntmps12
    go_wp2
    go_ret
    exact ⟨rfl, rfl⟩
  · have h2 : ¬ l < -16777216 := by omega
    go_enter Try.func12, Try.ntmps12
    go_wp2
    go_ret
    exact ⟨rfl, rfl⟩
set_option maxRecDepth 100000 in
theorem rceil_out (l : Int) (w : World) (h : l < -16777216 ∨ 16777216 < l) (h0 : -9223372036854775808 ≤ l) (h9 : l ≤ 9223372036854775807) :
    Calls Try.prog 13 #[.int .i64 l] w fun e w' => e = .returned (.int .i64 0) ∧ w' = w := by
  by_cases hm : l = -9223372036854775808
  · subst hm
    have F := Lib.hid fun w => rfloor_out (-9223372036854775808) w (by omega)
    have e : Hid (wrap64 9223372036854775808 = -9223372036854775808) := Lib.hid (by decide +kernel)
    go_enter Try.func13, Try.ntmps13
    go_wp2_with fail
    rw [e.out]
    with_reducible refine (F.out _).mono ?_
    rintro e w' ⟨rfl, rfl⟩
    go_wp2
    go_ret
    exact ⟨rfl, rfl⟩
  · have F := Lib.hid fun w => rfloor_out (-l) w (by omega)
    have g0 : -9223372036854775807 ≤ l := by omega
    clear hm h0
    go_enter Try.func13, Try.ntmps13
    go_wp2_with (go_at_call 11; refine (F.out _).mono ?_; rintro e w' ⟨rfl, rfl⟩)
    go_ret
    exact ⟨rfl, rfl⟩
theorem rceil_in (l : Int) (w : World) (h0 : -16777216 ≤ l) (h1 : l ≤ 16777216) :
    Calls Try.prog 13 #[.int .i64 l] w fun e w' => e = .returned (.int .i64 (-(-l * 30103 / 256000))) ∧ w' = w := by
  have F := Lib.hid fun w => rfloor_in (-l) w (by omega) (by omega)
  have q0 : -3000000 ≤ -l * 30103 / 256000 := by omega
  have q1 : -l * 30103 / 256000 ≤ 3000000 := by omega
  generalize hq : -l * 30103 / 256000 = q at *
  replace hq := Lib.hid hq
  go_enter Try.func13, Try.ntmps13
  go_wp2_with (go_at_call 11; refine (F.out _).mono ?_; rintro e w' ⟨rfl, rfl⟩)
  go_ret
  exact ⟨rfl, rfl⟩
def FloorSame (l v u : Int) : Prop :=
  (∀ w, Calls Try.prog 10 #[.int .i64 l] w fun e w' => e = .returned (.int .i64 v) ∧ w' = w) ∧
  (∀ w, Calls Try.prog 11 #[.int .i64 l] w fun e w' => e = .returned (.int .i64 v) ∧ w' = w) ∧
  (∀ w, Calls Try.prog 12 #[.int .i64 l] w fun e w' => e = .returned (.int .i64 u) ∧ w' = w) ∧
  ∀ w, Calls Try.prog 13 #[.int .i64 l] w fun e w' => e = .returned (.int .i64 u) ∧ w' = w
theorem floor_same (l : Int) (h0 : -9223372036854775808 ≤ l) (h9 : l ≤ 9223372036854775807) : ∃ v u, FloorSame l v u := by
  by_cases h : -16777216 ≤ l ∧ l ≤ 16777216
  · exact ⟨_, _, fun w => floor_any l w h.1 h.2, fun w => rfloor_in l w h.1 h.2, fun w => ceil_any l w h.1 h.2, fun w => rceil_in l w h.1 h.2⟩
  · have h' : l < -16777216 ∨ 16777216 < l := by omega
    exact ⟨0, 0, fun w => floor_out l w h', fun w => rfloor_out l w h', fun w => ceil_out l w h', fun w => rceil_out l w h' h0 h9⟩
end Log
end Go.Proofs.Ytkfjcanipmhanaa
