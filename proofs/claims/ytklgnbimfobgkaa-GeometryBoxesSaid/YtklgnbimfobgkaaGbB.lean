/- Package geometry at any boxes: Near, Far, Points, Center. -/
import Derived.Test.YtklgnbimfobgkaaGbA
set_option linter.unusedVariables false
set_option linter.unusedSimpArgs false
namespace Go.Proofs.Ytklgnbimfobgkaa
open Go.RowKit
namespace Geo
set_option maxHeartbeats 8000000 in
set_option maxRecDepth 100000 in
theorem near_no1 (a b c d e f x y z : Int) (h1 : bvB a b c d e f = false) (w : World) :
    Calls Try.prog 20 #[.agg #[.int .i64 a, .int .i64 b, .int .i64 c, .int .i64 d, .int .i64 e, .int .i64 f], .agg #[.int .i64 x, .int .i64 y, .int .i64 z]] w fun r w' => r = .returned (.int .i64 0) ∧ Below w.heap.size w w' := by
  have V1 := Lib.hid fun w => validBox_any a b c d e f w
  rw [h1] at V1
  clear h1
  go_enter Try.func20, Try.ntmps20
  have hA := Lib.hid (Buf.then_ (new_block (w := w) (.cells #[.int .i64 a, .int .i64 b, .int .i64 c, .int .i64 d, .int .i64 e, .int .i64 f] 25)) (new_block (.cells #[.int .i64 x, .int .i64 y, .int .i64 z] 23)))
  go_wp2_with fail
  with_reducible refine (V1.out _).mono ?_
  rintro r w1 ⟨rfl, hb⟩
  replace hA := Lib.hid (Buf.then_ hA.out hb)
  clear hb
  go_wp2_with fail
  go_ret
  exact ⟨rfl, hA.out⟩
set_option maxHeartbeats 8000000 in
set_option maxRecDepth 100000 in
theorem near_no2 (a b c d e f x y z : Int) (h1 : bvB a b c d e f = true) (h2 : pvB x y z = false) (w : World) :
    Calls Try.prog 20 #[.agg #[.int .i64 a, .int .i64 b, .int .i64 c, .int .i64 d, .int .i64 e, .int .i64 f], .agg #[.int .i64 x, .int .i64 y, .int .i64 z]] w fun r w' => r = .returned (.int .i64 0) ∧ Below w.heap.size w w' := by
  have V1 := Lib.hid fun w => validBox_any a b c d e f w
  rw [h1] at V1
  have V2 := Lib.hid fun w => valid_any x y z w
  rw [h2] at V2
  clear h1 h2
  go_enter Try.func20, Try.ntmps20
  have hA := Lib.hid (Buf.then_ (new_block (w := w) (.cells #[.int .i64 a, .int .i64 b, .int .i64 c, .int .i64 d, .int .i64 e, .int .i64 f] 25)) (new_block (.cells #[.int .i64 x, .int .i64 y, .int .i64 z] 23)))
  have p2 := Lib.hid (blk_new1 w (.cells #[.int .i64 a, .int .i64 b, .int .i64 c, .int .i64 d, .int .i64 e, .int .i64 f] 25) (.cells #[.int .i64 x, .int .i64 y, .int .i64 z] 23))
  go_wp2_with fail
  with_reducible refine (V1.out _).mono ?_
  rintro r w1 ⟨rfl, hb⟩
  replace p2 := Lib.hid (blk_b hb p2.out)
  replace hA := Lib.hid (Buf.then_ hA.out hb)
  clear hb
  obtain ⟨q1, q2, q3, _, _, _⟩ := cells3 p2.out
  go_wp2_with fail
  with_reducible refine (V2.out _).mono ?_
  rintro r w2 ⟨rfl, hb⟩
  replace hA := Lib.hid (Buf.then_ hA.out hb)
  clear hb
  go_wp2_with fail
  go_ret
  exact ⟨rfl, hA.out⟩
set_option maxHeartbeats 8000000 in
set_option maxRecDepth 100000 in
theorem far_no1 (a b c d e f x y z : Int) (h1 : bvB a b c d e f = false) (w : World) :
    Calls Try.prog 22 #[.agg #[.int .i64 a, .int .i64 b, .int .i64 c, .int .i64 d, .int .i64 e, .int .i64 f], .agg #[.int .i64 x, .int .i64 y, .int .i64 z]] w fun r w' => r = .returned (.int .i64 0) ∧ Below w.heap.size w w' := by
  have V1 := Lib.hid fun w => validBox_any a b c d e f w
  rw [h1] at V1
  clear h1
  go_enter Try.func22, Try.ntmps22
  have hA := Lib.hid (Buf.then_ (new_block (w := w) (.cells #[.int .i64 a, .int .i64 b, .int .i64 c, .int .i64 d, .int .i64 e, .int .i64 f] 25)) (new_block (.cells #[.int .i64 x, .int .i64 y, .int .i64 z] 23)))
  go_wp2_with fail
  with_reducible refine (V1.out _).mono ?_
  rintro r w1 ⟨rfl, hb⟩
  replace hA := Lib.hid (Buf.then_ hA.out hb)
  clear hb
  go_wp2_with fail
  go_ret
  exact ⟨rfl, hA.out⟩
set_option maxHeartbeats 8000000 in
set_option maxRecDepth 100000 in
theorem far_no2 (a b c d e f x y z : Int) (h1 : bvB a b c d e f = true) (h2 : pvB x y z = false) (w : World) :
    Calls Try.prog 22 #[.agg #[.int .i64 a, .int .i64 b, .int .i64 c, .int .i64 d, .int .i64 e, .int .i64 f], .agg #[.int .i64 x, .int .i64 y, .int .i64 z]] w fun r w' => r = .returned (.int .i64 0) ∧ Below w.heap.size w w' := by
  have V1 := Lib.hid fun w => validBox_any a b c d e f w
  rw [h1] at V1
  have V2 := Lib.hid fun w => valid_any x y z w
  rw [h2] at V2
  clear h1 h2
  go_enter Try.func22, Try.ntmps22
  have hA := Lib.hid (Buf.then_ (new_block (w := w) (.cells #[.int .i64 a, .int .i64 b, .int .i64 c, .int .i64 d, .int .i64 e, .int .i64 f] 25)) (new_block (.cells #[.int .i64 x, .int .i64 y, .int .i64 z] 23)))
  have p2 := Lib.hid (blk_new1 w (.cells #[.int .i64 a, .int .i64 b, .int .i64 c, .int .i64 d, .int .i64 e, .int .i64 f] 25) (.cells #[.int .i64 x, .int .i64 y, .int .i64 z] 23))
  go_wp2_with fail
  with_reducible refine (V1.out _).mono ?_
  rintro r w1 ⟨rfl, hb⟩
  replace p2 := Lib.hid (blk_b hb p2.out)
  replace hA := Lib.hid (Buf.then_ hA.out hb)
  clear hb
  obtain ⟨q1, q2, q3, _, _, _⟩ := cells3 p2.out
  go_wp2_with fail
  with_reducible refine (V2.out _).mono ?_
  rintro r w2 ⟨rfl, hb⟩
  replace hA := Lib.hid (Buf.then_ hA.out hb)
  clear hb
  go_wp2_with fail
  go_ret
  exact ⟨rfl, hA.out⟩
set_option maxHeartbeats 8000000 in
set_option maxRecDepth 100000 in
theorem points_no (a b c d e f : Int) (h1 : bvB a b c d e f = false) (w : World) :
    Calls Try.prog 15 #[.agg #[.int .i64 a, .int .i64 b, .int .i64 c, .int .i64 d, .int .i64 e, .int .i64 f]] w fun r w' => r = .returned (.int .i64 0) ∧ Below w.heap.size w w' := by
  have V1 := Lib.hid fun w => validBox_any a b c d e f w
  rw [h1] at V1
  clear h1
  go_enter Try.func15, Try.ntmps15
  have hA := Lib.hid (new_block (w := w) (.cells #[.int .i64 a, .int .i64 b, .int .i64 c, .int .i64 d, .int .i64 e, .int .i64 f] 25))
  go_wp2_with fail
  with_reducible refine (V1.out _).mono ?_
  rintro r w1 ⟨rfl, hb⟩
  replace hA := Lib.hid (Buf.then_ hA.out hb)
  clear hb
  go_wp2_with fail
  go_ret
  exact ⟨rfl, hA.out⟩
set_option maxHeartbeats 8000000 in
set_option maxRecDepth 100000 in
theorem withinv_no1 (a b c d e f a' b' c' d' e' f' : Int) (h1 : bvB a b c d e f = false) (w : World) :
    Calls Try.prog 26 #[.agg #[.int .i64 a, .int .i64 b, .int .i64 c, .int .i64 d, .int .i64 e, .int .i64 f], .agg #[.int .i64 a', .int .i64 b', .int .i64 c', .int .i64 d', .int .i64 e', .int .i64 f']] w fun r w' => r = .returned (.bool false) ∧ Below w.heap.size w w' := by
  have V1 := Lib.hid fun w => validBox_any a b c d e f w
  rw [h1] at V1
  clear h1
  go_enter Try.func26, Try.ntmps26
  have hA := Lib.hid (Buf.then_ (new_block (w := w) (.cells #[.int .i64 a, .int .i64 b, .int .i64 c, .int .i64 d, .int .i64 e, .int .i64 f] 25)) (new_block (.cells #[.int .i64 a', .int .i64 b', .int .i64 c', .int .i64 d', .int .i64 e', .int .i64 f'] 25)))
  go_wp2_with fail
  with_reducible refine (V1.out _).mono ?_
  rintro r w1 ⟨rfl, hb⟩
  replace hA := Lib.hid (Buf.then_ hA.out hb)
  clear hb
  go_wp2_with fail
  go_ret
  exact ⟨rfl, hA.out⟩
set_option maxHeartbeats 8000000 in
set_option maxRecDepth 100000 in
theorem withinv_no2 (a b c d e f a' b' c' d' e' f' : Int) (h1 : bvB a b c d e f = true) (h2 : bvB a' b' c' d' e' f' = false) (w : World) :
    Calls Try.prog 26 #[.agg #[.int .i64 a, .int .i64 b, .int .i64 c, .int .i64 d, .int .i64 e, .int .i64 f], .agg #[.int .i64 a', .int .i64 b', .int .i64 c', .int .i64 d', .int .i64 e', .int .i64 f']] w fun r w' => r = .returned (.bool false) ∧ Below w.heap.size w w' := by
  have V1 := Lib.hid fun w => validBox_any a b c d e f w
  rw [h1] at V1
  have V2 := Lib.hid fun w => validBox_any a' b' c' d' e' f' w
  rw [h2] at V2
  clear h1 h2
  go_enter Try.func26, Try.ntmps26
  have hA := Lib.hid (Buf.then_ (new_block (w := w) (.cells #[.int .i64 a, .int .i64 b, .int .i64 c, .int .i64 d, .int .i64 e, .int .i64 f] 25)) (new_block (.cells #[.int .i64 a', .int .i64 b', .int .i64 c', .int .i64 d', .int .i64 e', .int .i64 f'] 25)))
  have p2 := Lib.hid (blk_new1 w (.cells #[.int .i64 a, .int .i64 b, .int .i64 c, .int .i64 d, .int .i64 e, .int .i64 f] 25) (.cells #[.int .i64 a', .int .i64 b', .int .i64 c', .int .i64 d', .int .i64 e', .int .i64 f'] 25))
  go_wp2_with fail
  with_reducible refine (V1.out _).mono ?_
  rintro r w1 ⟨rfl, hb⟩
  replace p2 := Lib.hid (blk_b hb p2.out)
  replace hA := Lib.hid (Buf.then_ hA.out hb)
  clear hb
  obtain ⟨q1, q2, q3, q4, q5, q6⟩ := cells6 p2.out
  go_wp2_with fail
  with_reducible refine (V2.out _).mono ?_
  rintro r w2 ⟨rfl, hb⟩
  replace hA := Lib.hid (Buf.then_ hA.out hb)
  clear hb
  go_wp2_with fail
  go_ret
  exact ⟨rfl, hA.out⟩
end Geo
end Go.Proofs.Ytklgnbimfobgkaa
