/- The order and the squared distance of any positions. -/
import Derived.Test.YtklgnbimfobgkaaGeoT
import Derived.Test.YtklgnbimfobgkaaGeoUN
namespace Go.Proofs.Ytklgnbimfobgkaa
open Go.RowKit
namespace Geo
def sqv (a b c d e f : Int) : Int := if pvB a b c && pvB d e f then sq3 a b c d e f else 0
set_option maxHeartbeats 1000000 in
theorem square_any (a b c d e f : Int) (w : World) :
    Calls Try.prog 40 #[.agg #[.int .i64 a, .int .i64 b, .int .i64 c], .agg #[.int .i64 d, .int .i64 e, .int .i64 f]] w fun r w' => r = .returned (.int .i64 (sqv a b c d e f)) ∧ Below w.heap.size w w' := by
  cases h1 : pvB a b c with
  | true =>
    cases h2 : pvB d e f with
    | true =>
      have he : sqv a b c d e f = sq3 a b c d e f := by unfold sqv; rw [h1, h2]; rfl
      rw [he]
      exact square_yes a b c d e f (pvB_yes h1) (pvB_yes h2) w
    | false =>
      have he : sqv a b c d e f = 0 := by unfold sqv; rw [h1, h2]; rfl
      rw [he]
      have V1 := Lib.hid fun w => valid_yes a b c (pvB_yes h1) w
      have V2 := Lib.hid fun w => valid_no d e f h2 w
      clear h1 h2 he
      have p1 := Lib.hid (blk_alloc (blk_new w (.cells #[.int .i64 a, .int .i64 b, .int .i64 c] 23)) (.cells #[.int .i64 d, .int .i64 e, .int .i64 f] 23))
      have p2 := Lib.hid (blk_new1 w (.cells #[.int .i64 a, .int .i64 b, .int .i64 c] 23) (.cells #[.int .i64 d, .int .i64 e, .int .i64 f] 23))
      have hA : Hid (Below w.heap.size w ((w.alloc (.cells #[.int .i64 a, .int .i64 b, .int .i64 c] 23)).alloc (.cells #[.int .i64 d, .int .i64 e, .int .i64 f] 23))) := Lib.hid (Buf.then_ (new_block _) (new_block _))
      go_enter Try.func40, Try.ntmps40
      go_wp2_with fail
      with_reducible refine (V1.out _).mono ?_
      rintro r w1 ⟨rfl, hb⟩
      replace p2 := Lib.hid (blk_b hb p2.out)
      replace hA := Lib.hid (Buf.then_ hA.out hb)
      clear hb
      obtain ⟨q1, q2, q3, _, _, _⟩ := cells3 p2.out
      go_wp2_with fail
      with_reducible refine (V2.out _).mono ?_
      rintro r w2 ⟨rfl, hb⟩
      replace hA := Lib.hid (Buf.then_ hA.out hb)
      clear hb q1 q2 q3
      go_wp2
      go_ret
      exact ⟨rfl, hA.out⟩
  | false =>
    have he : sqv a b c d e f = 0 := by unfold sqv; rw [h1]; rfl
    rw [he]
    have V1 := Lib.hid fun w => valid_no a b c h1 w
    clear h1 he
    have hA : Hid (Below w.heap.size w ((w.alloc (.cells #[.int .i64 a, .int .i64 b, .int .i64 c] 23)).alloc (.cells #[.int .i64 d, .int .i64 e, .int .i64 f] 23))) := Lib.hid (Buf.then_ (new_block _) (new_block _))
    go_enter Try.func40, Try.ntmps40
    go_wp2_with fail
    with_reducible refine (V1.out _).mono ?_
    rintro r w1 ⟨rfl, hb⟩
    replace hA := Lib.hid (Buf.then_ hA.out hb)
    clear hb
    go_wp2
    go_ret
    exact ⟨rfl, hA.out⟩
theorem rsq_any (x : Int) (w : World) (h0 : -2097152 ≤ x) (h1 : x ≤ 2097152) : Calls Try.prog 51 #[.int .i64 x] w fun e w' => e = .returned (.int .i64 (x * x)) ∧ w' = w := by
  obtain ⟨s0, s1⟩ := sq_bd h0 h1
  go_enter Try.func51, Try.ntmps51
  go_wp2
  go_ret
  exact ⟨rfl, rfl⟩
set_option maxHeartbeats 1000000 in
theorem rsquare_any (a b c d e f : Int) (w : World) :
    Calls Try.prog 41 #[.agg #[.int .i64 a, .int .i64 b, .int .i64 c], .agg #[.int .i64 d, .int .i64 e, .int .i64 f]] w fun r w' => r = .returned (.int .i64 (sqv a b c d e f)) ∧ Below w.heap.size w w' := by
  have V1 := Lib.hid fun w => rvalid_any a b c w
  have V2 := Lib.hid fun w => rvalid_any d e f w
  have p1 := Lib.hid (blk_alloc (blk_new w (.cells #[.int .i64 a, .int .i64 b, .int .i64 c] 23)) (.cells #[.int .i64 d, .int .i64 e, .int .i64 f] 23))
  have p2 := Lib.hid (blk_new1 w (.cells #[.int .i64 a, .int .i64 b, .int .i64 c] 23) (.cells #[.int .i64 d, .int .i64 e, .int .i64 f] 23))
  have hA : Hid (Below w.heap.size w ((w.alloc (.cells #[.int .i64 a, .int .i64 b, .int .i64 c] 23)).alloc (.cells #[.int .i64 d, .int .i64 e, .int .i64 f] 23))) := Lib.hid (Buf.then_ (new_block _) (new_block _))
  cases h1 : pvB a b c with
  | true =>
    cases h2 : pvB d e f with
    | true =>
      have he : sqv a b c d e f = (a - d) * (a - d) + (b - e) * (b - e) + (c - f) * (c - f) := by unfold sqv; rw [h1, h2]; rfl
      rw [he]
      rw [h1] at V1
      rw [h2] at V2
      obtain ⟨ax0, ax1, ay0, ay1, az0, az1⟩ := pvB_yes h1
      obtain ⟨bx0, bx1, by0, by1, bz0, bz1⟩ := pvB_yes h2
      obtain ⟨s0, s1⟩ := sq_bd (show -2097152 ≤ a - d by omega) (show a - d ≤ 2097152 by omega)
      obtain ⟨s2, s3⟩ := sq_bd (show -2097152 ≤ b - e by omega) (show b - e ≤ 2097152 by omega)
      obtain ⟨s4, s5⟩ := sq_bd (show -2097152 ≤ c - f by omega) (show c - f ≤ 2097152 by omega)
      have S1 := Lib.hid fun w => rsq_any (a - d) w (by omega) (by omega)
      have S2 := Lib.hid fun w => rsq_any (b - e) w (by omega) (by omega)
      have S3 := Lib.hid fun w => rsq_any (c - f) w (by omega) (by omega)
      clear h1 h2 he
      go_enter Try.func41, Try.ntmps41
      go_wp2_with fail
      with_reducible refine (V1.out _).mono ?_
      rintro r w1 ⟨rfl, hb⟩
      replace p1 := Lib.hid (blk_b hb p1.out)
      replace p2 := Lib.hid (blk_b hb p2.out)
      replace hA := Lib.hid (Buf.then_ hA.out hb)
      clear hb
      obtain ⟨q1, q2, q3, _, _, _⟩ := cells3 p2.out
      go_wp2_with fail
      with_reducible refine (V2.out _).mono ?_
      rintro r w2 ⟨rfl, hb⟩
      replace p1 := Lib.hid (blk_b hb p1.out)
      replace p2 := Lib.hid (blk_b hb p2.out)
      replace hA := Lib.hid (Buf.then_ hA.out hb)
      clear hb q1 q2 q3
      obtain ⟨a1, a2, a3, _, _, _⟩ := cells3 p1.out
      obtain ⟨q1, q2, q3, _, _, _⟩ := cells3 p2.out
      go_wp2_with fail
      go_quiet ((go_at_call 51; first | (with_reducible exact Calls.quiet_of_same (S1.out _)) | (with_reducible exact Calls.quiet_of_same (S2.out _)) | (with_reducible exact Calls.quiet_of_same (S3.out _))))
      go_wp2
      go_ret
      exact ⟨rfl, Buf.below_drewN hA.out _⟩
    | false =>
      have he : sqv a b c d e f = 0 := by unfold sqv; rw [h1, h2]; rfl
      rw [he]
      rw [h1] at V1
      rw [h2] at V2
      clear h1 h2 he
      go_enter Try.func41, Try.ntmps41
      go_wp2_with fail
      with_reducible refine (V1.out _).mono ?_
      rintro r w1 ⟨rfl, hb⟩
      replace p2 := Lib.hid (blk_b hb p2.out)
      replace hA := Lib.hid (Buf.then_ hA.out hb)
      clear hb
      obtain ⟨q1, q2, q3, _, _, _⟩ := cells3 p2.out
      go_wp2_with fail
      with_reducible refine (V2.out _).mono ?_
      rintro r w2 ⟨rfl, hb⟩
      replace hA := Lib.hid (Buf.then_ hA.out hb)
      clear hb q1 q2 q3
      go_wp2
      go_ret
      exact ⟨rfl, hA.out⟩
  | false =>
    have he : sqv a b c d e f = 0 := by unfold sqv; rw [h1]; rfl
    rw [he]
    rw [h1] at V1
    clear h1 he
    go_enter Try.func41, Try.ntmps41
    go_wp2_with fail
    with_reducible refine (V1.out _).mono ?_
    rintro r w1 ⟨rfl, hb⟩
    replace hA := Lib.hid (Buf.then_ hA.out hb)
    clear hb
    go_wp2
    go_ret
    exact ⟨rfl, hA.out⟩
end Geo
end Go.Proofs.Ytklgnbimfobgkaa
