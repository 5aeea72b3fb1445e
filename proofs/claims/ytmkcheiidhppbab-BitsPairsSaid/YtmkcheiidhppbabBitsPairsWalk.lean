/- The walk of BitsPairs. -/
import Derived.Test.YtmkcheiidhppbabSane04
namespace Go.Proofs.Ytmkcheiidhppbab
open Go.RowKit Bits
namespace Laws
theorem pair_yes' (n i : Int) (j : Nat) (w : World) (h1 : 0 ≤ n) (h2 : n ≤ 4294967295) (hj : j ≤ 15) (hi : i = 15 - (j : Int)) :
    Calls Try.prog 10 #[.int .i64 n, .int .i64 i] w fun e w' => e = .returned (.tuple #[.int .i64 (Ma.pr n j), .int .i64 0]) ∧ ∃ m, w' = w.drewN m := by
  have := pair_yes n i w h1 h2 (by omega) (by omega)
  rw [show (15 - i).toNat = j by omega] at this
  exact this
theorem setPair_yes' (n i v : Int) (j : Nat) (w : World) (h1 : 0 ≤ n) (h2 : n ≤ 4294967295) (hj : j ≤ 15) (hi : i = 15 - (j : Int)) (h5 : 0 ≤ v) (h6 : v ≤ 3) :
    Calls Try.prog 11 #[.int .i64 n, .int .i64 i, .int .i64 v] w fun e w' => e = .returned (.tuple #[.int .i64 (Ma.setPr n j v), .int .i64 0]) ∧ ∃ m, w' = w.drewN m := by
  have := setPair_yes n i v w h1 h2 (by omega) (by omega) h5 h6
  rw [show (15 - i).toNat = j by omega] at this
  exact this
set_option maxHeartbeats 800000 in
set_option maxRecDepth 100000 in
theorem bitsPairs_walk (a0 : Int) (a1 : Int) (a2 : Int) (w0 : (Lit.int .u32 a0).wf = true) (w1 : (Lit.int .u32 a1).wf = true) (w2 : (Lit.int .u8 a2).wf = true) (w : World) :
    Calls Try.prog 3 #[.int .u32 a0, .int .u32 a1, .int .u8 a2] w fun e w' => e = .returned (.bool true) ∧ Below w.heap.size w w' := by
  obtain ⟨u0, u0'⟩ := Ma.wf_u32 w0
  obtain ⟨u1, u1'⟩ := Ma.wf_u32 w1
  obtain ⟨u2, u2'⟩ := Ma.wf_u8 w2
  clear w0 w1 w2
  go_enter Try.func3, Try.ntmps3
  go_wp2_with fail
  go_loopw [7, 8, 9] (fun x y i wr => ∃ k : Nat, k ≤ 16 ∧ i = .int .i64 k ∧ x = .int .i64 (Ma.hiPr a0 (16 - k)) ∧ y = .int .i64 (Ma.mixPr a1 a0 k) ∧ ∃ m, wr = w.drewN m) (fun _ _ i _ => (16 - intOf i).toNat)
  case atStart => exact ⟨0, by omega, rfl, by rw [Ma.hi_start a0 u0 u0'], by rw [Ma.mix_start], 0, rfl⟩
  case round =>
    obtain ⟨k, hk, rfl, rfl, rfl, m0, rfl⟩ := hrel
    by_cases hlt : k < 16
    · have P1 := Lib.hid (fun w => pair_yes' a0 k (15 - k) w u0 u0' (by omega) (by omega))
      have P2 := Lib.hid (fun w => pair_yes' a0 (15 - (k : Int)) k w u0 u0' (by omega) (by omega))
      obtain ⟨r1, r2⟩ := Ma.hi_rng a0 (16 - k) u0
      obtain ⟨r3, r4⟩ := Ma.mix_rng a1 a0 k hk u1 u1'
      obtain ⟨r5, r6⟩ := Ma.pr_rng a0 (15 - k)
      obtain ⟨r7, r8⟩ := Ma.pr_rng a0 k
      have S1 := fun w => setPair_yes' (Ma.hiPr a0 (16 - k)) k (Ma.pr a0 (15 - k)) (15 - k) w r1 (by omega) (by omega) (by omega) r5 r6
      have S2 := fun w => setPair_yes' (Ma.mixPr a1 a0 k) (15 - (k : Int)) (Ma.pr a0 k) k w r3 r4 (by omega) (by omega) r7 r8
      rw [show 16 - k = (15 - k) + 1 by omega, Ma.hi_step] at S1
      rw [Ma.mix_step] at S2
      have S1 := Lib.hid S1
      have S2 := Lib.hid S2
      rw [show 15 - k + 1 = 16 - k by omega] at S1
      go_wp2_with (first | (go_at_call 10; (first | (with_reducible refine (P1.out _).mono ?_) | (with_reducible refine (P2.out _).mono ?_)); rintro e w' ⟨rfl, m, rfl⟩) | (go_at_call 11; (first | (with_reducible refine (S1.out _).mono ?_) | (with_reducible refine (S2.out _).mono ?_)); rintro e w' ⟨rfl, m, rfl⟩))
      go_roundw
      case rel => exact ⟨k + 1, by omega, by go_num, by rw [show 16 - (k + 1) = 15 - k by omega], rfl, _, rfl⟩
      case measure => simp [intOf]; omega
    · obtain rfl : k = 16 := by omega
      rw [Nat.sub_self, Ma.hi_end, Ma.mix_end a1 a0 u1 u1' u0 u0']
      obtain ⟨d, hd⟩ : ∃ d : Nat, d = (15 - a2 % 16).toNat := ⟨_, rfl⟩
      have hd15 : d ≤ 15 := by omega
      have Hd := Lib.hid hd
      clear hd
      have hd16 : Hid (a2 % 16 = 15 - (d : Int)) := by have := Hd.out; show _ = _; omega
      have S1 := Lib.hid (fun w => setPair_yes' a0 (a2 % 16) 2 d w u0 u0' (by omega) hd16.out (by omega) (by omega))
      obtain ⟨z1, z2⟩ := Ma.setPr_rng a0 2 d hd15 u0 u0' (by omega) (by omega)
      go_wp2_with (go_at_call 11; with_reducible refine (S1.out _).mono ?_; rintro e w' ⟨rfl, m, rfl⟩)
      go_loopw [22] (fun i wr => ∃ k : Nat, k ≤ 16 ∧ i = .int .i64 k ∧ ∃ m, wr = w.drewN m) (fun i _ => (16 - intOf i).toNat)
      case atStart => exact ⟨0, by omega, rfl, _, rfl⟩
      case round =>
        obtain ⟨j, hj, rfl, m1, rfl⟩ := hrel
        by_cases hlt2 : j < 16
        · have P1 := Lib.hid (fun w => pair_yes' a0 j (15 - j) w u0 u0' (by omega) (by omega))
          by_cases he : (j : Int) = a2 % 16
          · have P2 := fun w => pair_yes' (Ma.setPr a0 d 2) j (15 - j) w z1 z2 (by omega) (by omega)
            rw [show 15 - j = d by have := hd16.out; omega, Ma.pr_set_same a0 2 d (by omega) (by omega)] at P2
            have P2 := Lib.hid P2
            have t1 := beq_iff_eq.2 he
            have He := Lib.hid he
            clear he
            go_wp2_with (go_at_call 10; (first | (with_reducible refine (P1.out _).mono ?_) | (with_reducible refine (P2.out _).mono ?_)); rintro e w' ⟨rfl, m, rfl⟩)
            go_roundw
            case rel => exact ⟨j + 1, by omega, by go_num, _, rfl⟩
            case measure => simp [intOf]; omega
          · have P2 := fun w => pair_yes' (Ma.setPr a0 d 2) j (15 - j) w z1 z2 (by omega) (by omega)
            rw [Ma.pr_set_other a0 2 d (15 - j) (by omega) (by omega) (by have := hd16.out; omega)] at P2
            have P2 := Lib.hid P2
            have t1 := beq_eq_false_iff_ne.2 he
            have He := Lib.hid he
            clear he
            go_wp2_with (go_at_call 10; (first | (with_reducible refine (P1.out _).mono ?_) | (with_reducible refine (P2.out _).mono ?_)); rintro e w' ⟨rfl, m, rfl⟩)
            go_roundw
            case rel => exact ⟨j + 1, by omega, by go_num, _, rfl⟩
            case measure => simp [intOf]; omega
        · obtain rfl : j = 16 := by omega
          go_wp2_with (go_at_call 12; refine (sane_any _).mono ?_; rintro e w1 ⟨rfl, hb⟩)
          go_ret
          exact ⟨rfl, Buf.of_drewN hb⟩
end Laws
end Go.Proofs.Ytmkcheiidhppbab
