/- The reference of layer 24 at any boxes. -/
import Derived.Test.YtklgnbimfobgkaaGbB
import Derived.Test.YtklgnbimfobgkaaGeoU
set_option linter.unusedVariables false
set_option linter.unusedSimpArgs false
namespace Go.Proofs.Ytklgnbimfobgkaa
open Go.RowKit
namespace Geo
set_option maxHeartbeats 8000000 in
set_option maxRecDepth 100000 in
theorem rvb_0 (a b c d e f : Int) (k1 : pvB a b c = false) (w : World) :
    Calls Try.prog 14 #[.agg #[.int .i64 a, .int .i64 b, .int .i64 c, .int .i64 d, .int .i64 e, .int .i64 f]] w fun r w' => r = .returned (.bool false) ∧ Below w.heap.size w w' := by
  have V1 := Lib.hid fun w => rvalid_any a b c w
  rw [k1] at V1
  clear k1
  have p1 := Lib.hid (blk_new w (.cells #[.int .i64 a, .int .i64 b, .int .i64 c, .int .i64 d, .int .i64 e, .int .i64 f] 25))
  have hA := Lib.hid (new_block (w := w) (.cells #[.int .i64 a, .int .i64 b, .int .i64 c, .int .i64 d, .int .i64 e, .int .i64 f] 25))
  go_enter Try.func14, Try.ntmps14
  go_wp2_with fail
  with_reducible refine (V1.out _).mono ?_
  rintro r w1 ⟨rfl, hb⟩
  replace p1 := Lib.hid (blk_b hb p1.out)
  replace hA := Lib.hid (Buf.then_ hA.out hb)
  clear hb
  obtain ⟨u1, u2, u3, u4, u5, u6⟩ := cells6 p1.out
  go_wp2_with fail
  go_ret
  exact ⟨rfl, hA.out⟩
set_option maxHeartbeats 8000000 in
set_option maxRecDepth 100000 in
theorem rvb_1 (a b c d e f : Int) (k1 : pvB a b c = true) (k2 : pvB d e f = false) (w : World) :
    Calls Try.prog 14 #[.agg #[.int .i64 a, .int .i64 b, .int .i64 c, .int .i64 d, .int .i64 e, .int .i64 f]] w fun r w' => r = .returned (.bool false) ∧ Below w.heap.size w w' := by
  have V1 := Lib.hid fun w => rvalid_any a b c w
  rw [k1] at V1
  have V2 := Lib.hid fun w => rvalid_any d e f w
  rw [k2] at V2
  clear k1 k2
  have p1 := Lib.hid (blk_new w (.cells #[.int .i64 a, .int .i64 b, .int .i64 c, .int .i64 d, .int .i64 e, .int .i64 f] 25))
  have hA := Lib.hid (new_block (w := w) (.cells #[.int .i64 a, .int .i64 b, .int .i64 c, .int .i64 d, .int .i64 e, .int .i64 f] 25))
  go_enter Try.func14, Try.ntmps14
  go_wp2_with fail
  with_reducible refine (V1.out _).mono ?_
  rintro r w1 ⟨rfl, hb⟩
  replace p1 := Lib.hid (blk_b hb p1.out)
  replace hA := Lib.hid (Buf.then_ hA.out hb)
  clear hb
  obtain ⟨u1, u2, u3, u4, u5, u6⟩ := cells6 p1.out
  go_wp2_with fail
  with_reducible refine (V2.out _).mono ?_
  rintro r w2 ⟨rfl, hb⟩
  replace p1 := Lib.hid (blk_b hb p1.out)
  replace hA := Lib.hid (Buf.then_ hA.out hb)
  clear hb
  clear u1 u2 u3 u4 u5 u6
  obtain ⟨u1, u2, u3, u4, u5, u6⟩ := cells6 p1.out
  go_wp2_with fail
  go_ret
  exact ⟨rfl, hA.out⟩
set_option maxHeartbeats 8000000 in
set_option maxRecDepth 100000 in
theorem rvb_2 (a b c d e f : Int) (k1 : pvB a b c = true) (k2 : pvB d e f = true) (hx : d < a) (w : World) :
    Calls Try.prog 14 #[.agg #[.int .i64 a, .int .i64 b, .int .i64 c, .int .i64 d, .int .i64 e, .int .i64 f]] w fun r w' => r = .returned (.bool false) ∧ Below w.heap.size w w' := by
  have V1 := Lib.hid fun w => rvalid_any a b c w
  rw [k1] at V1
  have V2 := Lib.hid fun w => rvalid_any d e f w
  rw [k2] at V2
  clear k1 k2
  have p1 := Lib.hid (blk_new w (.cells #[.int .i64 a, .int .i64 b, .int .i64 c, .int .i64 d, .int .i64 e, .int .i64 f] 25))
  have hA := Lib.hid (new_block (w := w) (.cells #[.int .i64 a, .int .i64 b, .int .i64 c, .int .i64 d, .int .i64 e, .int .i64 f] 25))
  go_enter Try.func14, Try.ntmps14
  go_wp2_with fail
  with_reducible refine (V1.out _).mono ?_
  rintro r w1 ⟨rfl, hb⟩
  replace p1 := Lib.hid (blk_b hb p1.out)
  replace hA := Lib.hid (Buf.then_ hA.out hb)
  clear hb
  obtain ⟨u1, u2, u3, u4, u5, u6⟩ := cells6 p1.out
  go_wp2_with fail
  with_reducible refine (V2.out _).mono ?_
  rintro r w2 ⟨rfl, hb⟩
  replace p1 := Lib.hid (blk_b hb p1.out)
  replace hA := Lib.hid (Buf.then_ hA.out hb)
  clear hb
  clear u1 u2 u3 u4 u5 u6
  obtain ⟨u1, u2, u3, u4, u5, u6⟩ := cells6 p1.out
  go_wp2_with fail
  go_ret
  exact ⟨rfl, hA.out⟩
set_option maxHeartbeats 8000000 in
set_option maxRecDepth 100000 in
theorem rvb_3 (a b c d e f : Int) (k1 : pvB a b c = true) (k2 : pvB d e f = true) (hx : a ≤ d) (hy : e < b) (w : World) :
    Calls Try.prog 14 #[.agg #[.int .i64 a, .int .i64 b, .int .i64 c, .int .i64 d, .int .i64 e, .int .i64 f]] w fun r w' => r = .returned (.bool false) ∧ Below w.heap.size w w' := by
  have V1 := Lib.hid fun w => rvalid_any a b c w
  rw [k1] at V1
  have V2 := Lib.hid fun w => rvalid_any d e f w
  rw [k2] at V2
  clear k1 k2
  have p1 := Lib.hid (blk_new w (.cells #[.int .i64 a, .int .i64 b, .int .i64 c, .int .i64 d, .int .i64 e, .int .i64 f] 25))
  have hA := Lib.hid (new_block (w := w) (.cells #[.int .i64 a, .int .i64 b, .int .i64 c, .int .i64 d, .int .i64 e, .int .i64 f] 25))
  go_enter Try.func14, Try.ntmps14
  go_wp2_with fail
  with_reducible refine (V1.out _).mono ?_
  rintro r w1 ⟨rfl, hb⟩
  replace p1 := Lib.hid (blk_b hb p1.out)
  replace hA := Lib.hid (Buf.then_ hA.out hb)
  clear hb
  obtain ⟨u1, u2, u3, u4, u5, u6⟩ := cells6 p1.out
  go_wp2_with fail
  with_reducible refine (V2.out _).mono ?_
  rintro r w2 ⟨rfl, hb⟩
  replace p1 := Lib.hid (blk_b hb p1.out)
  replace hA := Lib.hid (Buf.then_ hA.out hb)
  clear hb
  clear u1 u2 u3 u4 u5 u6
  obtain ⟨u1, u2, u3, u4, u5, u6⟩ := cells6 p1.out
  go_wp2_with fail
  go_ret
  exact ⟨rfl, hA.out⟩
set_option maxHeartbeats 8000000 in
set_option maxRecDepth 100000 in
theorem rvb_4 (a b c d e f : Int) (k1 : pvB a b c = true) (k2 : pvB d e f = true) (hx : a ≤ d) (hy : b ≤ e) (w : World) :
    Calls Try.prog 14 #[.agg #[.int .i64 a, .int .i64 b, .int .i64 c, .int .i64 d, .int .i64 e, .int .i64 f]] w fun r w' => r = .returned (.bool (decide (c ≤ f))) ∧ Below w.heap.size w w' := by
  have V1 := Lib.hid fun w => rvalid_any a b c w
  rw [k1] at V1
  have V2 := Lib.hid fun w => rvalid_any d e f w
  rw [k2] at V2
  clear k1 k2
  have p1 := Lib.hid (blk_new w (.cells #[.int .i64 a, .int .i64 b, .int .i64 c, .int .i64 d, .int .i64 e, .int .i64 f] 25))
  have hA := Lib.hid (new_block (w := w) (.cells #[.int .i64 a, .int .i64 b, .int .i64 c, .int .i64 d, .int .i64 e, .int .i64 f] 25))
  go_enter Try.func14, Try.ntmps14
  go_wp2_with fail
  with_reducible refine (V1.out _).mono ?_
  rintro r w1 ⟨rfl, hb⟩
  replace p1 := Lib.hid (blk_b hb p1.out)
  replace hA := Lib.hid (Buf.then_ hA.out hb)
  clear hb
  obtain ⟨u1, u2, u3, u4, u5, u6⟩ := cells6 p1.out
  go_wp2_with fail
  with_reducible refine (V2.out _).mono ?_
  rintro r w2 ⟨rfl, hb⟩
  replace p1 := Lib.hid (blk_b hb p1.out)
  replace hA := Lib.hid (Buf.then_ hA.out hb)
  clear hb
  clear u1 u2 u3 u4 u5 u6
  obtain ⟨u1, u2, u3, u4, u5, u6⟩ := cells6 p1.out
  go_wp2_with fail
  go_ret
  exact ⟨rfl, hA.out⟩
theorem rvalidBox_any (a b c d e f : Int) (w : World) :
    Calls Try.prog 14 #[.agg #[.int .i64 a, .int .i64 b, .int .i64 c, .int .i64 d, .int .i64 e, .int .i64 f]] w fun r w' => r = .returned (.bool (bvB a b c d e f)) ∧ Below w.heap.size w w' := by
  have e0 : bvB a b c d e f = (pvB a b c && (pvB d e f && (decide (a ≤ d) && (decide (b ≤ e) && decide (c ≤ f))))) := by
    unfold bvB
    cases pvB a b c <;> cases pvB d e f <;> simp
  rw [e0]
  cases k1 : pvB a b c with
  | false => exact rvb_0 a b c d e f k1 w
  | true =>
    cases k2 : pvB d e f with
    | false => exact rvb_1 a b c d e f k1 k2 w
    | true =>
      rw [Bool.true_and, Bool.true_and]
      by_cases hx : a ≤ d
      · rw [decide_eq_true hx, Bool.true_and]
        by_cases hy : b ≤ e
        · rw [decide_eq_true hy, Bool.true_and]
          exact rvb_4 a b c d e f k1 k2 hx hy w
        · rw [decide_eq_false hy, Bool.false_and]
          exact rvb_3 a b c d e f k1 k2 hx (by omega) w
      · rw [decide_eq_false hx, Bool.false_and]
        exact rvb_2 a b c d e f k1 k2 (by omega) w
set_option maxRecDepth 100000 in
theorem rnear_any (lo hi x : Int) (w : World) (l0 : -1048576 ≤ lo) (l1 : lo ≤ 1048576) (h0 : -1048576 ≤ hi) (h1 : hi ≤ 1048576) (x0 : -1048576 ≤ x) (x1 : x ≤ 1048576) (m : Int) (hm : m = max (lo - x) (max (x - hi) 0)) : Calls Try.prog 52 #[.int .i64 lo, .int .i64 hi, .int .i64 x] w fun e w' => e = .returned (.int .i64 m) ∧ w' = w := by
  have e : max 0 (max (lo - x) (x - hi)) = m := by omega
  replace e := Lib.hid e
  clear hm
  go_enter Try.func52, Try.ntmps52
  go_wp2
  go_ret
  exact ⟨congrArg (fun z => Ending.returned (Value.int .i64 z)) e.out, rfl⟩
set_option maxRecDepth 100000 in
theorem rfar_any (lo hi x : Int) (w : World) (l0 : -1048576 ≤ lo) (l1 : lo ≤ 1048576) (h0 : -1048576 ≤ hi) (h1 : hi ≤ 1048576) (x0 : -1048576 ≤ x) (x1 : x ≤ 1048576) (m : Int) (hm : m = max (hi - x) (x - lo)) : Calls Try.prog 53 #[.int .i64 lo, .int .i64 hi, .int .i64 x] w fun e w' => e = .returned (.int .i64 m) ∧ w' = w := by
  have e : max (x - lo) (hi - x) = m := by omega
  replace e := Lib.hid e
  clear hm
  go_enter Try.func53, Try.ntmps53
  go_wp2
  go_ret
  exact ⟨congrArg (fun z => Ending.returned (Value.int .i64 z)) e.out, rfl⟩
set_option maxRecDepth 100000 in
theorem rmiddle_yes (x y : Int) (w : World) (x0 : -1048576 ≤ x) (x1 : x ≤ y) (y1 : y ≤ 1048576) :
    Calls Try.prog 49 #[.int .i64 x, .int .i64 y] w fun e w' => e = .returned (.int .i64 (x + (y - x) / 2)) ∧ w' = w := by
  go_enter Try.func49, Try.ntmps49
  go_wp2
  go_ret
  exact ⟨rfl, rfl⟩
set_option maxHeartbeats 8000000 in
set_option maxRecDepth 100000 in
theorem rnear_1 (a b c d e f x y z : Int) (k1 : bvB a b c d e f = false) (w : World) :
    Calls Try.prog 21 #[.agg #[.int .i64 a, .int .i64 b, .int .i64 c, .int .i64 d, .int .i64 e, .int .i64 f], .agg #[.int .i64 x, .int .i64 y, .int .i64 z]] w fun r w' => r = .returned (.int .i64 0) ∧ Below w.heap.size w w' := by
  have V1 := Lib.hid fun w => rvalidBox_any a b c d e f w
  rw [k1] at V1
  clear k1
  have p1 := Lib.hid (blk_alloc (blk_new w (.cells #[.int .i64 a, .int .i64 b, .int .i64 c, .int .i64 d, .int .i64 e, .int .i64 f] 25)) (.cells #[.int .i64 x, .int .i64 y, .int .i64 z] 23))
  have p2 := Lib.hid (blk_new1 w (.cells #[.int .i64 a, .int .i64 b, .int .i64 c, .int .i64 d, .int .i64 e, .int .i64 f] 25) (.cells #[.int .i64 x, .int .i64 y, .int .i64 z] 23))
  have hA := Lib.hid (Buf.then_ (new_block (w := w) (.cells #[.int .i64 a, .int .i64 b, .int .i64 c, .int .i64 d, .int .i64 e, .int .i64 f] 25)) (new_block (.cells #[.int .i64 x, .int .i64 y, .int .i64 z] 23)))
  go_enter Try.func21, Try.ntmps21
  go_wp2_with fail
  with_reducible refine (V1.out _).mono ?_
  rintro r w1 ⟨rfl, hb⟩
  replace p1 := Lib.hid (blk_b hb p1.out)
  replace p2 := Lib.hid (blk_b hb p2.out)
  replace hA := Lib.hid (Buf.then_ hA.out hb)
  clear hb
  go_wp2_with fail
  go_ret
  exact ⟨rfl, hA.out⟩
set_option maxHeartbeats 8000000 in
set_option maxRecDepth 100000 in
theorem rnear_2 (a b c d e f x y z : Int) (k1 : bvB a b c d e f = true) (k2 : pvB x y z = false) (w : World) :
    Calls Try.prog 21 #[.agg #[.int .i64 a, .int .i64 b, .int .i64 c, .int .i64 d, .int .i64 e, .int .i64 f], .agg #[.int .i64 x, .int .i64 y, .int .i64 z]] w fun r w' => r = .returned (.int .i64 0) ∧ Below w.heap.size w w' := by
  have V1 := Lib.hid fun w => rvalidBox_any a b c d e f w
  rw [k1] at V1
  have V2 := Lib.hid fun w => rvalid_any x y z w
  rw [k2] at V2
  clear k1 k2
  have p1 := Lib.hid (blk_alloc (blk_new w (.cells #[.int .i64 a, .int .i64 b, .int .i64 c, .int .i64 d, .int .i64 e, .int .i64 f] 25)) (.cells #[.int .i64 x, .int .i64 y, .int .i64 z] 23))
  have p2 := Lib.hid (blk_new1 w (.cells #[.int .i64 a, .int .i64 b, .int .i64 c, .int .i64 d, .int .i64 e, .int .i64 f] 25) (.cells #[.int .i64 x, .int .i64 y, .int .i64 z] 23))
  have hA := Lib.hid (Buf.then_ (new_block (w := w) (.cells #[.int .i64 a, .int .i64 b, .int .i64 c, .int .i64 d, .int .i64 e, .int .i64 f] 25)) (new_block (.cells #[.int .i64 x, .int .i64 y, .int .i64 z] 23)))
  go_enter Try.func21, Try.ntmps21
  go_wp2_with fail
  with_reducible refine (V1.out _).mono ?_
  rintro r w1 ⟨rfl, hb⟩
  replace p1 := Lib.hid (blk_b hb p1.out)
  replace p2 := Lib.hid (blk_b hb p2.out)
  replace hA := Lib.hid (Buf.then_ hA.out hb)
  clear hb
  obtain ⟨q1, q2, q3, _, _, _⟩ := cells3 p2.out
  go_wp2_with fail
  with_reducible refine (V2.out _).mono ?_
  rintro r w2 ⟨rfl, hb⟩
  replace p1 := Lib.hid (blk_b hb p1.out)
  replace p2 := Lib.hid (blk_b hb p2.out)
  replace hA := Lib.hid (Buf.then_ hA.out hb)
  clear hb
  clear q1 q2 q3
  go_wp2_with fail
  go_ret
  exact ⟨rfl, hA.out⟩
set_option maxHeartbeats 8000000 in
set_option maxRecDepth 100000 in
theorem rnear_3 (a b c d e f x y z : Int) (k1 : bvB a b c d e f = true) (k2 : pvB x y z = true) (w : World) :
    Calls Try.prog 21 #[.agg #[.int .i64 a, .int .i64 b, .int .i64 c, .int .i64 d, .int .i64 e, .int .i64 f], .agg #[.int .i64 x, .int .i64 y, .int .i64 z]] w fun r w' => r = .returned (.int .i64 (near3 a b c d e f x y z)) ∧ Below w.heap.size w w' := by
  have V1 := Lib.hid fun w => rvalidBox_any a b c d e f w
  rw [k1] at V1
  have V2 := Lib.hid fun w => rvalid_any x y z w
  rw [k2] at V2
  obtain ⟨⟨ax0, ax1, ay0, ay1, az0, az1⟩, ⟨dx0, dx1, dy0, dy1, dz0, dz1⟩, hx, hy, hz⟩ := bvB_yes k1
  obtain ⟨px0, px1, py0, py1, pz0, pz1⟩ := pvB_yes k2
  unfold near3
  obtain ⟨m0, hm0⟩ : ∃ m, m = max (a - x) (max (x - d) 0) := ⟨_, rfl⟩
  obtain ⟨m1, hm1⟩ : ∃ m, m = max (b - y) (max (y - e) 0) := ⟨_, rfl⟩
  obtain ⟨m2, hm2⟩ : ∃ m, m = max (c - z) (max (z - f) 0) := ⟨_, rfl⟩
  rw [← hm0, ← hm1, ← hm2]
  have N0 := Lib.hid fun w => rnear_any a d x w (by omega) (by omega) (by omega) (by omega) (by omega) (by omega) m0 hm0
  have S0 := Lib.hid fun w => rsq_any m0 w (by omega) (by omega)
  obtain ⟨s0, t0⟩ := sq_bd (show -2097152 ≤ m0 by omega) (show m0 ≤ 2097152 by omega)
  have N1 := Lib.hid fun w => rnear_any b e y w (by omega) (by omega) (by omega) (by omega) (by omega) (by omega) m1 hm1
  have S1 := Lib.hid fun w => rsq_any m1 w (by omega) (by omega)
  obtain ⟨s1, t1⟩ := sq_bd (show -2097152 ≤ m1 by omega) (show m1 ≤ 2097152 by omega)
  have N2 := Lib.hid fun w => rnear_any c f z w (by omega) (by omega) (by omega) (by omega) (by omega) (by omega) m2 hm2
  have S2 := Lib.hid fun w => rsq_any m2 w (by omega) (by omega)
  obtain ⟨s2, t2⟩ := sq_bd (show -2097152 ≤ m2 by omega) (show m2 ≤ 2097152 by omega)
  clear hm0 hm1 hm2
  clear k1 k2
  have p1 := Lib.hid (blk_alloc (blk_new w (.cells #[.int .i64 a, .int .i64 b, .int .i64 c, .int .i64 d, .int .i64 e, .int .i64 f] 25)) (.cells #[.int .i64 x, .int .i64 y, .int .i64 z] 23))
  have p2 := Lib.hid (blk_new1 w (.cells #[.int .i64 a, .int .i64 b, .int .i64 c, .int .i64 d, .int .i64 e, .int .i64 f] 25) (.cells #[.int .i64 x, .int .i64 y, .int .i64 z] 23))
  have hA := Lib.hid (Buf.then_ (new_block (w := w) (.cells #[.int .i64 a, .int .i64 b, .int .i64 c, .int .i64 d, .int .i64 e, .int .i64 f] 25)) (new_block (.cells #[.int .i64 x, .int .i64 y, .int .i64 z] 23)))
  go_enter Try.func21, Try.ntmps21
  go_wp2_with fail
  with_reducible refine (V1.out _).mono ?_
  rintro r w1 ⟨rfl, hb⟩
  replace p1 := Lib.hid (blk_b hb p1.out)
  replace p2 := Lib.hid (blk_b hb p2.out)
  replace hA := Lib.hid (Buf.then_ hA.out hb)
  clear hb
  obtain ⟨q1, q2, q3, _, _, _⟩ := cells3 p2.out
  go_wp2_with fail
  with_reducible refine (V2.out _).mono ?_
  rintro r w2 ⟨rfl, hb⟩
  replace p1 := Lib.hid (blk_b hb p1.out)
  replace p2 := Lib.hid (blk_b hb p2.out)
  replace hA := Lib.hid (Buf.then_ hA.out hb)
  clear hb
  clear q1 q2 q3
  obtain ⟨u1, u2, u3, u4, u5, u6⟩ := cells6 p1.out
  obtain ⟨q1, q2, q3, _, _, _⟩ := cells3 p2.out
  go_wp2_with fail
  go_quiet (first | (go_at_call 52; with_reducible exact Calls.quiet_of_same (N0.out _)) | (go_at_call 52; with_reducible exact Calls.quiet_of_same (N1.out _)) | (go_at_call 52; with_reducible exact Calls.quiet_of_same (N2.out _)) | (go_at_call 51; with_reducible exact Calls.quiet_of_same (S0.out _)) | (go_at_call 51; with_reducible exact Calls.quiet_of_same (S1.out _)) | (go_at_call 51; with_reducible exact Calls.quiet_of_same (S2.out _)))
  go_wp2_with fail
  go_ret
  exact ⟨rfl, Buf.below_drewN hA.out _⟩
set_option maxHeartbeats 8000000 in
set_option maxRecDepth 100000 in
theorem rfar_1 (a b c d e f x y z : Int) (k1 : bvB a b c d e f = false) (w : World) :
    Calls Try.prog 23 #[.agg #[.int .i64 a, .int .i64 b, .int .i64 c, .int .i64 d, .int .i64 e, .int .i64 f], .agg #[.int .i64 x, .int .i64 y, .int .i64 z]] w fun r w' => r = .returned (.int .i64 0) ∧ Below w.heap.size w w' := by
  have V1 := Lib.hid fun w => rvalidBox_any a b c d e f w
  rw [k1] at V1
  clear k1
  have p1 := Lib.hid (blk_alloc (blk_new w (.cells #[.int .i64 a, .int .i64 b, .int .i64 c, .int .i64 d, .int .i64 e, .int .i64 f] 25)) (.cells #[.int .i64 x, .int .i64 y, .int .i64 z] 23))
  have p2 := Lib.hid (blk_new1 w (.cells #[.int .i64 a, .int .i64 b, .int .i64 c, .int .i64 d, .int .i64 e, .int .i64 f] 25) (.cells #[.int .i64 x, .int .i64 y, .int .i64 z] 23))
  have hA := Lib.hid (Buf.then_ (new_block (w := w) (.cells #[.int .i64 a, .int .i64 b, .int .i64 c, .int .i64 d, .int .i64 e, .int .i64 f] 25)) (new_block (.cells #[.int .i64 x, .int .i64 y, .int .i64 z] 23)))
  go_enter Try.func23, Try.ntmps23
  go_wp2_with fail
  with_reducible refine (V1.out _).mono ?_
  rintro r w1 ⟨rfl, hb⟩
  replace p1 := Lib.hid (blk_b hb p1.out)
  replace p2 := Lib.hid (blk_b hb p2.out)
  replace hA := Lib.hid (Buf.then_ hA.out hb)
  clear hb
  go_wp2_with fail
  go_ret
  exact ⟨rfl, hA.out⟩
set_option maxHeartbeats 8000000 in
set_option maxRecDepth 100000 in
theorem rfar_2 (a b c d e f x y z : Int) (k1 : bvB a b c d e f = true) (k2 : pvB x y z = false) (w : World) :
    Calls Try.prog 23 #[.agg #[.int .i64 a, .int .i64 b, .int .i64 c, .int .i64 d, .int .i64 e, .int .i64 f], .agg #[.int .i64 x, .int .i64 y, .int .i64 z]] w fun r w' => r = .returned (.int .i64 0) ∧ Below w.heap.size w w' := by
  have V1 := Lib.hid fun w => rvalidBox_any a b c d e f w
  rw [k1] at V1
  have V2 := Lib.hid fun w => rvalid_any x y z w
  rw [k2] at V2
  clear k1 k2
  have p1 := Lib.hid (blk_alloc (blk_new w (.cells #[.int .i64 a, .int .i64 b, .int .i64 c, .int .i64 d, .int .i64 e, .int .i64 f] 25)) (.cells #[.int .i64 x, .int .i64 y, .int .i64 z] 23))
  have p2 := Lib.hid (blk_new1 w (.cells #[.int .i64 a, .int .i64 b, .int .i64 c, .int .i64 d, .int .i64 e, .int .i64 f] 25) (.cells #[.int .i64 x, .int .i64 y, .int .i64 z] 23))
  have hA := Lib.hid (Buf.then_ (new_block (w := w) (.cells #[.int .i64 a, .int .i64 b, .int .i64 c, .int .i64 d, .int .i64 e, .int .i64 f] 25)) (new_block (.cells #[.int .i64 x, .int .i64 y, .int .i64 z] 23)))
  go_enter Try.func23, Try.ntmps23
  go_wp2_with fail
  with_reducible refine (V1.out _).mono ?_
  rintro r w1 ⟨rfl, hb⟩
  replace p1 := Lib.hid (blk_b hb p1.out)
  replace p2 := Lib.hid (blk_b hb p2.out)
  replace hA := Lib.hid (Buf.then_ hA.out hb)
  clear hb
  obtain ⟨q1, q2, q3, _, _, _⟩ := cells3 p2.out
  go_wp2_with fail
  with_reducible refine (V2.out _).mono ?_
  rintro r w2 ⟨rfl, hb⟩
  replace p1 := Lib.hid (blk_b hb p1.out)
  replace p2 := Lib.hid (blk_b hb p2.out)
  replace hA := Lib.hid (Buf.then_ hA.out hb)
  clear hb
  clear q1 q2 q3
  go_wp2_with fail
  go_ret
  exact ⟨rfl, hA.out⟩
set_option maxHeartbeats 8000000 in
set_option maxRecDepth 100000 in
theorem rfar_3 (a b c d e f x y z : Int) (k1 : bvB a b c d e f = true) (k2 : pvB x y z = true) (w : World) :
    Calls Try.prog 23 #[.agg #[.int .i64 a, .int .i64 b, .int .i64 c, .int .i64 d, .int .i64 e, .int .i64 f], .agg #[.int .i64 x, .int .i64 y, .int .i64 z]] w fun r w' => r = .returned (.int .i64 (far3 a b c d e f x y z)) ∧ Below w.heap.size w w' := by
  have V1 := Lib.hid fun w => rvalidBox_any a b c d e f w
  rw [k1] at V1
  have V2 := Lib.hid fun w => rvalid_any x y z w
  rw [k2] at V2
  obtain ⟨⟨ax0, ax1, ay0, ay1, az0, az1⟩, ⟨dx0, dx1, dy0, dy1, dz0, dz1⟩, hx, hy, hz⟩ := bvB_yes k1
  obtain ⟨px0, px1, py0, py1, pz0, pz1⟩ := pvB_yes k2
  unfold far3
  obtain ⟨m0, hm0⟩ : ∃ m, m = max (d - x) (x - a) := ⟨_, rfl⟩
  obtain ⟨m1, hm1⟩ : ∃ m, m = max (e - y) (y - b) := ⟨_, rfl⟩
  obtain ⟨m2, hm2⟩ : ∃ m, m = max (f - z) (z - c) := ⟨_, rfl⟩
  rw [← hm0, ← hm1, ← hm2]
  have N0 := Lib.hid fun w => rfar_any a d x w (by omega) (by omega) (by omega) (by omega) (by omega) (by omega) m0 hm0
  have S0 := Lib.hid fun w => rsq_any m0 w (by omega) (by omega)
  obtain ⟨s0, t0⟩ := sq_bd (show -2097152 ≤ m0 by omega) (show m0 ≤ 2097152 by omega)
  have N1 := Lib.hid fun w => rfar_any b e y w (by omega) (by omega) (by omega) (by omega) (by omega) (by omega) m1 hm1
  have S1 := Lib.hid fun w => rsq_any m1 w (by omega) (by omega)
  obtain ⟨s1, t1⟩ := sq_bd (show -2097152 ≤ m1 by omega) (show m1 ≤ 2097152 by omega)
  have N2 := Lib.hid fun w => rfar_any c f z w (by omega) (by omega) (by omega) (by omega) (by omega) (by omega) m2 hm2
  have S2 := Lib.hid fun w => rsq_any m2 w (by omega) (by omega)
  obtain ⟨s2, t2⟩ := sq_bd (show -2097152 ≤ m2 by omega) (show m2 ≤ 2097152 by omega)
  clear hm0 hm1 hm2
  clear k1 k2
  have p1 := Lib.hid (blk_alloc (blk_new w (.cells #[.int .i64 a, .int .i64 b, .int .i64 c, .int .i64 d, .int .i64 e, .int .i64 f] 25)) (.cells #[.int .i64 x, .int .i64 y, .int .i64 z] 23))
  have p2 := Lib.hid (blk_new1 w (.cells #[.int .i64 a, .int .i64 b, .int .i64 c, .int .i64 d, .int .i64 e, .int .i64 f] 25) (.cells #[.int .i64 x, .int .i64 y, .int .i64 z] 23))
  have hA := Lib.hid (Buf.then_ (new_block (w := w) (.cells #[.int .i64 a, .int .i64 b, .int .i64 c, .int .i64 d, .int .i64 e, .int .i64 f] 25)) (new_block (.cells #[.int .i64 x, .int .i64 y, .int .i64 z] 23)))
  go_enter Try.func23, Try.ntmps23
  go_wp2_with fail
  with_reducible refine (V1.out _).mono ?_
  rintro r w1 ⟨rfl, hb⟩
  replace p1 := Lib.hid (blk_b hb p1.out)
  replace p2 := Lib.hid (blk_b hb p2.out)
  replace hA := Lib.hid (Buf.then_ hA.out hb)
  clear hb
  obtain ⟨q1, q2, q3, _, _, _⟩ := cells3 p2.out
  go_wp2_with fail
  with_reducible refine (V2.out _).mono ?_
  rintro r w2 ⟨rfl, hb⟩
  replace p1 := Lib.hid (blk_b hb p1.out)
  replace p2 := Lib.hid (blk_b hb p2.out)
  replace hA := Lib.hid (Buf.then_ hA.out hb)
  clear hb
  clear q1 q2 q3
  obtain ⟨u1, u2, u3, u4, u5, u6⟩ := cells6 p1.out
  obtain ⟨q1, q2, q3, _, _, _⟩ := cells3 p2.out
  go_wp2_with fail
  go_quiet (first | (go_at_call 53; with_reducible exact Calls.quiet_of_same (N0.out _)) | (go_at_call 53; with_reducible exact Calls.quiet_of_same (N1.out _)) | (go_at_call 53; with_reducible exact Calls.quiet_of_same (N2.out _)) | (go_at_call 51; with_reducible exact Calls.quiet_of_same (S0.out _)) | (go_at_call 51; with_reducible exact Calls.quiet_of_same (S1.out _)) | (go_at_call 51; with_reducible exact Calls.quiet_of_same (S2.out _)))
  go_wp2_with fail
  go_ret
  exact ⟨rfl, Buf.below_drewN hA.out _⟩
set_option maxHeartbeats 8000000 in
set_option maxRecDepth 100000 in
theorem rpoints_1 (a b c d e f : Int) (k1 : bvB a b c d e f = false) (w : World) :
    Calls Try.prog 16 #[.agg #[.int .i64 a, .int .i64 b, .int .i64 c, .int .i64 d, .int .i64 e, .int .i64 f]] w fun r w' => r = .returned (.int .i64 0) ∧ Below w.heap.size w w' := by
  have V1 := Lib.hid fun w => rvalidBox_any a b c d e f w
  rw [k1] at V1
  clear k1
  have p1 := Lib.hid (blk_new w (.cells #[.int .i64 a, .int .i64 b, .int .i64 c, .int .i64 d, .int .i64 e, .int .i64 f] 25))
  have hA := Lib.hid (new_block (w := w) (.cells #[.int .i64 a, .int .i64 b, .int .i64 c, .int .i64 d, .int .i64 e, .int .i64 f] 25))
  go_enter Try.func16, Try.ntmps16
  go_wp2_with fail
  with_reducible refine (V1.out _).mono ?_
  rintro r w1 ⟨rfl, hb⟩
  replace p1 := Lib.hid (blk_b hb p1.out)
  replace hA := Lib.hid (Buf.then_ hA.out hb)
  clear hb
  go_wp2_with fail
  go_ret
  exact ⟨rfl, hA.out⟩
set_option maxHeartbeats 8000000 in
set_option maxRecDepth 100000 in
theorem rpoints_2 (a b c d e f : Int) (k1 : bvB a b c d e f = true) (w : World) :
    Calls Try.prog 16 #[.agg #[.int .i64 a, .int .i64 b, .int .i64 c, .int .i64 d, .int .i64 e, .int .i64 f]] w fun r w' => r = .returned (.int .i64 (pts a b c d e f)) ∧ Below w.heap.size w w' := by
  have V1 := Lib.hid fun w => rvalidBox_any a b c d e f w
  rw [k1] at V1
  obtain ⟨⟨l1, l2⟩, l3, l4⟩ := pts_bd (bvB_yes k1)
  obtain ⟨⟨ax0, ax1, ay0, ay1, az0, az1⟩, ⟨dx0, dx1, dy0, dy1, dz0, dz1⟩, hx, hy, hz⟩ := bvB_yes k1
  unfold pts
  clear k1
  have p1 := Lib.hid (blk_new w (.cells #[.int .i64 a, .int .i64 b, .int .i64 c, .int .i64 d, .int .i64 e, .int .i64 f] 25))
  have hA := Lib.hid (new_block (w := w) (.cells #[.int .i64 a, .int .i64 b, .int .i64 c, .int .i64 d, .int .i64 e, .int .i64 f] 25))
  go_enter Try.func16, Try.ntmps16
  go_wp2_with fail
  with_reducible refine (V1.out _).mono ?_
  rintro r w1 ⟨rfl, hb⟩
  replace p1 := Lib.hid (blk_b hb p1.out)
  replace hA := Lib.hid (Buf.then_ hA.out hb)
  clear hb
  obtain ⟨u1, u2, u3, u4, u5, u6⟩ := cells6 p1.out
  go_wp2_with fail
  go_ret
  exact ⟨rfl, hA.out⟩
end Geo
end Go.Proofs.Ytklgnbimfobgkaa
