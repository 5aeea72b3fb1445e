/- GbDE: texts joined. -/
import Derived.Test.YtmmikihkfpkapaaGbAC
import Derived.Test.YtmmikihkfpkapaaInvAB
/- Package geometry at any boxes: Center, Split, Hull, Within, Contains. -/
set_option linter.unusedVariables false
set_option linter.unusedSimpArgs false
namespace Go.Proofs.Ytmmikihkfpkapaa
open Go.RowKit
namespace Geo
set_option maxHeartbeats 8000000 in
set_option maxRecDepth 100000 in
theorem center_no (a b c d e f : Int) (k1 : bvB a b c d e f = false) (w : World) :
    Calls Try.prog 50 #[.agg #[.int .i64 a, .int .i64 b, .int .i64 c, .int .i64 d, .int .i64 e, .int .i64 f]] w fun r w' => r = .returned (.agg #[.int .i64 0, .int .i64 0, .int .i64 0]) ∧ Below w.heap.size w w' := by
  have V1 := Lib.hid fun w => validBox_any a b c d e f w
  rw [k1] at V1
  clear k1
  have p1 := Lib.hid (blk_alloc (blk_new w (.cells #[.int .i64 a, .int .i64 b, .int .i64 c, .int .i64 d, .int .i64 e, .int .i64 f] 28)) (.cells #[.int .i64 0, .int .i64 0, .int .i64 0] 26))
  have p2 := Lib.hid (blk_new1 w (.cells #[.int .i64 a, .int .i64 b, .int .i64 c, .int .i64 d, .int .i64 e, .int .i64 f] 28) (.cells #[.int .i64 0, .int .i64 0, .int .i64 0] 26))
  have hA := Lib.hid (Buf.then_ (new_block (w := w) (.cells #[.int .i64 a, .int .i64 b, .int .i64 c, .int .i64 d, .int .i64 e, .int .i64 f] 28)) (new_block (.cells #[.int .i64 0, .int .i64 0, .int .i64 0] 26)))
  go_enter Try.func50, Try.ntmps50
  go_wp2_with fail
  with_reducible refine (V1.out _).mono ?_
  rintro r w1 ⟨rfl, hb⟩
  replace p2 := Lib.hid (blk_b hb p2.out)
  replace hA := Lib.hid (Buf.then_ hA.out hb)
  clear hb
  obtain ⟨e1, e2, e3, e4, e5, e6⟩ := cells3 p2.out
  go_wp2_with fail
  exact bodyPost_ret (results_cell_row rfl _ _ (w.heap.size + 1) _ _ _ _ rfl (st3 p2.out (.int .i64 0) (.int .i64 0) (.int .i64 0)) rfl (by rfl) rfl) rfl ⟨rfl, st3_below hA.out (by omega) (.int .i64 0) (.int .i64 0) (.int .i64 0)⟩
set_option maxHeartbeats 8000000 in
set_option maxRecDepth 100000 in
theorem hull_no_1 (a b c d e f a' b' c' d' e' f' : Int) (k1 : bvB a b c d e f = false) (w : World) :
    Calls Try.prog 51 #[.agg #[.int .i64 a, .int .i64 b, .int .i64 c, .int .i64 d, .int .i64 e, .int .i64 f], .agg #[.int .i64 a', .int .i64 b', .int .i64 c', .int .i64 d', .int .i64 e', .int .i64 f']] w fun r w' => r = .returned (.agg #[.int .i64 0, .int .i64 0, .int .i64 0, .int .i64 0, .int .i64 0, .int .i64 0]) ∧ Below w.heap.size w w' := by
  have V1 := Lib.hid fun w => validBox_any a b c d e f w
  rw [k1] at V1
  clear k1
  have p1 := Lib.hid (blk_alloc (blk_alloc (blk_new w (.cells #[.int .i64 a, .int .i64 b, .int .i64 c, .int .i64 d, .int .i64 e, .int .i64 f] 28)) (.cells #[.int .i64 a', .int .i64 b', .int .i64 c', .int .i64 d', .int .i64 e', .int .i64 f'] 28)) (.cells #[.int .i64 0, .int .i64 0, .int .i64 0, .int .i64 0, .int .i64 0, .int .i64 0] 28))
  have p2 := Lib.hid (blk_alloc (blk_new1 w (.cells #[.int .i64 a, .int .i64 b, .int .i64 c, .int .i64 d, .int .i64 e, .int .i64 f] 28) (.cells #[.int .i64 a', .int .i64 b', .int .i64 c', .int .i64 d', .int .i64 e', .int .i64 f'] 28)) (.cells #[.int .i64 0, .int .i64 0, .int .i64 0, .int .i64 0, .int .i64 0, .int .i64 0] 28))
  have p3 := Lib.hid (blk_new2 w (.cells #[.int .i64 a, .int .i64 b, .int .i64 c, .int .i64 d, .int .i64 e, .int .i64 f] 28) (.cells #[.int .i64 a', .int .i64 b', .int .i64 c', .int .i64 d', .int .i64 e', .int .i64 f'] 28) (.cells #[.int .i64 0, .int .i64 0, .int .i64 0, .int .i64 0, .int .i64 0, .int .i64 0] 28))
  have hA := Lib.hid (Buf.then_ (Buf.then_ (new_block (w := w) (.cells #[.int .i64 a, .int .i64 b, .int .i64 c, .int .i64 d, .int .i64 e, .int .i64 f] 28)) (new_block (.cells #[.int .i64 a', .int .i64 b', .int .i64 c', .int .i64 d', .int .i64 e', .int .i64 f'] 28))) (new_block (.cells #[.int .i64 0, .int .i64 0, .int .i64 0, .int .i64 0, .int .i64 0, .int .i64 0] 28)))
  go_enter Try.func51, Try.ntmps51
  go_wp2_with fail
  with_reducible refine (V1.out _).mono ?_
  rintro r w1 ⟨rfl, hb⟩
  replace p2 := Lib.hid (blk_b hb p2.out)
  replace p3 := Lib.hid (blk_b hb p3.out)
  replace hA := Lib.hid (Buf.then_ hA.out hb)
  clear hb
  obtain ⟨e1, e2, e3, e4, e5, e6, e7, e8, e9, e10, e11, e12⟩ := cells6f p3.out
  go_wp2_with fail
  exact bodyPost_ret (results_cell_row rfl _ _ (w.heap.size + 1 + 1) _ _ _ _ rfl (st6 p3.out (.int .i64 0) (.int .i64 0) (.int .i64 0) (.int .i64 0) (.int .i64 0) (.int .i64 0)) rfl (by rfl) rfl) rfl ⟨rfl, st6_below hA.out (by omega) (.int .i64 0) (.int .i64 0) (.int .i64 0) (.int .i64 0) (.int .i64 0) (.int .i64 0)⟩
set_option maxHeartbeats 8000000 in
set_option maxRecDepth 100000 in
theorem hull_no_2 (a b c d e f a' b' c' d' e' f' : Int) (k1 : bvB a b c d e f = true) (k2 : bvB a' b' c' d' e' f' = false) (w : World) :
    Calls Try.prog 51 #[.agg #[.int .i64 a, .int .i64 b, .int .i64 c, .int .i64 d, .int .i64 e, .int .i64 f], .agg #[.int .i64 a', .int .i64 b', .int .i64 c', .int .i64 d', .int .i64 e', .int .i64 f']] w fun r w' => r = .returned (.agg #[.int .i64 0, .int .i64 0, .int .i64 0, .int .i64 0, .int .i64 0, .int .i64 0]) ∧ Below w.heap.size w w' := by
  have V1 := Lib.hid fun w => validBox_any a b c d e f w
  rw [k1] at V1
  have V2 := Lib.hid fun w => validBox_any a' b' c' d' e' f' w
  rw [k2] at V2
  clear k1 k2
  have p1 := Lib.hid (blk_alloc (blk_alloc (blk_new w (.cells #[.int .i64 a, .int .i64 b, .int .i64 c, .int .i64 d, .int .i64 e, .int .i64 f] 28)) (.cells #[.int .i64 a', .int .i64 b', .int .i64 c', .int .i64 d', .int .i64 e', .int .i64 f'] 28)) (.cells #[.int .i64 0, .int .i64 0, .int .i64 0, .int .i64 0, .int .i64 0, .int .i64 0] 28))
  have p2 := Lib.hid (blk_alloc (blk_new1 w (.cells #[.int .i64 a, .int .i64 b, .int .i64 c, .int .i64 d, .int .i64 e, .int .i64 f] 28) (.cells #[.int .i64 a', .int .i64 b', .int .i64 c', .int .i64 d', .int .i64 e', .int .i64 f'] 28)) (.cells #[.int .i64 0, .int .i64 0, .int .i64 0, .int .i64 0, .int .i64 0, .int .i64 0] 28))
  have p3 := Lib.hid (blk_new2 w (.cells #[.int .i64 a, .int .i64 b, .int .i64 c, .int .i64 d, .int .i64 e, .int .i64 f] 28) (.cells #[.int .i64 a', .int .i64 b', .int .i64 c', .int .i64 d', .int .i64 e', .int .i64 f'] 28) (.cells #[.int .i64 0, .int .i64 0, .int .i64 0, .int .i64 0, .int .i64 0, .int .i64 0] 28))
  have hA := Lib.hid (Buf.then_ (Buf.then_ (new_block (w := w) (.cells #[.int .i64 a, .int .i64 b, .int .i64 c, .int .i64 d, .int .i64 e, .int .i64 f] 28)) (new_block (.cells #[.int .i64 a', .int .i64 b', .int .i64 c', .int .i64 d', .int .i64 e', .int .i64 f'] 28))) (new_block (.cells #[.int .i64 0, .int .i64 0, .int .i64 0, .int .i64 0, .int .i64 0, .int .i64 0] 28)))
  go_enter Try.func51, Try.ntmps51
  go_wp2_with fail
  with_reducible refine (V1.out _).mono ?_
  rintro r w1 ⟨rfl, hb⟩
  replace p2 := Lib.hid (blk_b hb p2.out)
  replace p3 := Lib.hid (blk_b hb p3.out)
  replace hA := Lib.hid (Buf.then_ hA.out hb)
  clear hb
  obtain ⟨q1, q2, q3, q4, q5, q6⟩ := cells6 p2.out
  go_wp2_with fail
  with_reducible refine (V2.out _).mono ?_
  rintro r w2 ⟨rfl, hb⟩
  replace p3 := Lib.hid (blk_b hb p3.out)
  replace hA := Lib.hid (Buf.then_ hA.out hb)
  clear hb
  clear q1 q2 q3 q4 q5 q6
  obtain ⟨e1, e2, e3, e4, e5, e6, e7, e8, e9, e10, e11, e12⟩ := cells6f p3.out
  go_wp2_with fail
  exact bodyPost_ret (results_cell_row rfl _ _ (w.heap.size + 1 + 1) _ _ _ _ rfl (st6 p3.out (.int .i64 0) (.int .i64 0) (.int .i64 0) (.int .i64 0) (.int .i64 0) (.int .i64 0)) rfl (by rfl) rfl) rfl ⟨rfl, st6_below hA.out (by omega) (.int .i64 0) (.int .i64 0) (.int .i64 0) (.int .i64 0) (.int .i64 0) (.int .i64 0)⟩
set_option maxHeartbeats 8000000 in
set_option maxRecDepth 100000 in
theorem split_lt (a b c d e f : Int) (n : Int) (hn : n < 2) (P : Hid (∀ w, Calls Try.prog 46 #[.agg #[.int .i64 a, .int .i64 b, .int .i64 c, .int .i64 d, .int .i64 e, .int .i64 f]] w fun r w' => r = .returned (.int .i64 n) ∧ Below w.heap.size w w')) (w : World) :
    Calls Try.prog 37 #[.agg #[.int .i64 a, .int .i64 b, .int .i64 c, .int .i64 d, .int .i64 e, .int .i64 f]] w fun r w' => r = .returned (.tuple #[.agg #[.int .i64 0, .int .i64 0, .int .i64 0, .int .i64 0, .int .i64 0, .int .i64 0], .agg #[.int .i64 0, .int .i64 0, .int .i64 0, .int .i64 0, .int .i64 0, .int .i64 0], .bool false]) ∧ Below w.heap.size w w' := by
  have p1 := Lib.hid (blk_alloc (blk_alloc (blk_new w (.cells #[.int .i64 a, .int .i64 b, .int .i64 c, .int .i64 d, .int .i64 e, .int .i64 f] 28)) (.cells #[.int .i64 0, .int .i64 0, .int .i64 0, .int .i64 0, .int .i64 0, .int .i64 0] 28)) (.cells #[.int .i64 0, .int .i64 0, .int .i64 0, .int .i64 0, .int .i64 0, .int .i64 0] 28))
  have p2 := Lib.hid (blk_alloc (blk_new1 w (.cells #[.int .i64 a, .int .i64 b, .int .i64 c, .int .i64 d, .int .i64 e, .int .i64 f] 28) (.cells #[.int .i64 0, .int .i64 0, .int .i64 0, .int .i64 0, .int .i64 0, .int .i64 0] 28)) (.cells #[.int .i64 0, .int .i64 0, .int .i64 0, .int .i64 0, .int .i64 0, .int .i64 0] 28))
  have p3 := Lib.hid (blk_new2 w (.cells #[.int .i64 a, .int .i64 b, .int .i64 c, .int .i64 d, .int .i64 e, .int .i64 f] 28) (.cells #[.int .i64 0, .int .i64 0, .int .i64 0, .int .i64 0, .int .i64 0, .int .i64 0] 28) (.cells #[.int .i64 0, .int .i64 0, .int .i64 0, .int .i64 0, .int .i64 0, .int .i64 0] 28))
  have hA := Lib.hid (Buf.then_ (Buf.then_ (new_block (w := w) (.cells #[.int .i64 a, .int .i64 b, .int .i64 c, .int .i64 d, .int .i64 e, .int .i64 f] 28)) (new_block (.cells #[.int .i64 0, .int .i64 0, .int .i64 0, .int .i64 0, .int .i64 0, .int .i64 0] 28))) (new_block (.cells #[.int .i64 0, .int .i64 0, .int .i64 0, .int .i64 0, .int .i64 0, .int .i64 0] 28)))
  go_enter Try.func37, Try.ntmps37
  go_wp2_with fail
  with_reducible refine (P.out _).mono ?_
  rintro r w1 ⟨rfl, hb⟩
  replace p2 := Lib.hid (blk_b hb p2.out)
  replace p3 := Lib.hid (blk_b hb p3.out)
  replace hA := Lib.hid (Buf.then_ hA.out hb)
  clear hb
  obtain ⟨e1, e2, e3, e4, e5, e6, e7, e8, e9, e10, e11, e12⟩ := cells6f p2.out
  obtain ⟨h1, h2, h3, h4, h5, h6, h7, h8, h9, h10, h11, h12⟩ := cells6f p3.out
  have y1 := Lib.hid (st6 ((st6_other w1 (k := w.heap.size + 1 + 1) (g := w.heap.size + 1) (by omega) (.int .i64 0) (.int .i64 0) (.int .i64 0) (.int .i64 0) (.int .i64 0) (.int .i64 0)).trans p3.out) (.int .i64 0) (.int .i64 0) (.int .i64 0) (.int .i64 0) (.int .i64 0) (.int .i64 0))
  have y2 := Lib.hid ((st6_other _ (k := w.heap.size + 1) (g := w.heap.size + 1 + 1) (by omega) (.int .i64 0) (.int .i64 0) (.int .i64 0) (.int .i64 0) (.int .i64 0) (.int .i64 0)).trans (st6 p2.out (.int .i64 0) (.int .i64 0) (.int .i64 0) (.int .i64 0) (.int .i64 0) (.int .i64 0)))
  have y3 := Lib.hid (st6_below (st6_below hA.out (g := w.heap.size + 1) (by omega) (.int .i64 0) (.int .i64 0) (.int .i64 0) (.int .i64 0) (.int .i64 0) (.int .i64 0)) (g := w.heap.size + 1 + 1) (by omega) (.int .i64 0) (.int .i64 0) (.int .i64 0) (.int .i64 0) (.int .i64 0) (.int .i64 0))
  go_wp2
  exact bodyPost_ret (results_two_rows_tmp rfl _ _ (w.heap.size + 1) (w.heap.size + 1 + 1) _ _ _ _ _ _ _ _ rfl y2.out rfl (by rfl) rfl rfl y1.out rfl (by rfl) rfl) rfl ⟨rfl, y3.out⟩
def wiV (a b c d e f a' b' c' d' e' f' : Int) : Bool := bvB a b c d e f && (bvB a' b' c' d' e' f' && wiB a b c d e f a' b' c' d' e' f')
theorem within_all (a b c d e f a' b' c' d' e' f' : Int) (w : World) :
    Calls Try.prog 29 #[.agg #[.int .i64 a, .int .i64 b, .int .i64 c, .int .i64 d, .int .i64 e, .int .i64 f], .agg #[.int .i64 a', .int .i64 b', .int .i64 c', .int .i64 d', .int .i64 e', .int .i64 f']] w fun r w' => r = .returned (.bool (wiV a b c d e f a' b' c' d' e' f')) ∧ Below w.heap.size w w' := by
  unfold wiV
  cases k1 : bvB a b c d e f with
  | false => exact withinv_no1 a b c d e f a' b' c' d' e' f' k1 w
  | true =>
    cases k2 : bvB a' b' c' d' e' f' with
    | false => exact withinv_no2 a b c d e f a' b' c' d' e' f' k1 k2 w
    | true => exact within_any a b c d e f a' b' c' d' e' f' (bvB_yes k1) (bvB_yes k2) w
/-- Whether a box contains a position. -/
def coV (a b c d e f x y z : Int) : Bool := bvB a b c d e f && decide (a ≤ x ∧ x ≤ d ∧ b ≤ y ∧ y ≤ e ∧ c ≤ z ∧ z ≤ f)
theorem pt_co {a b c d e f x y z : Int} (h : bvB a b c d e f = true) (k : a ≤ x ∧ x ≤ d ∧ b ≤ y ∧ y ≤ e ∧ c ≤ z ∧ z ≤ f) : bvB x y z x y z = true := by
  obtain ⟨⟨ax0, ax1, ay0, ay1, az0, az1⟩, ⟨dx0, dx1, dy0, dy1, dz0, dz1⟩, hx, hy, hz⟩ := bvB_yes h
  exact bvB_of ⟨⟨by omega, by omega, by omega, by omega, by omega, by omega⟩, ⟨by omega, by omega, by omega, by omega, by omega, by omega⟩, by omega, by omega, by omega⟩
theorem wi_pt (a b c d e f x y z : Int) : wiV x y z x y z a b c d e f = coV a b c d e f x y z := by
  unfold wiV coV
  cases h : bvB a b c d e f with
  | false => simp
  | true =>
    have eW : wiB x y z x y z a b c d e f = decide (a ≤ x ∧ x ≤ d ∧ b ≤ y ∧ y ≤ e ∧ c ≤ z ∧ z ≤ f) := rfl
    rw [Bool.true_and, Bool.true_and, eW]
    by_cases k : a ≤ x ∧ x ≤ d ∧ b ≤ y ∧ y ≤ e ∧ c ≤ z ∧ z ≤ f
    · rw [pt_co h k, Bool.true_and]
    · rw [decide_eq_false k, Bool.and_false]
theorem wi_co (a b c d e f a' b' c' d' e' f' : Int) : wiV a b c d e f a' b' c' d' e' f' = (bvB a b c d e f && (coV a' b' c' d' e' f' a b c && coV a' b' c' d' e' f' d e f)) := by
  unfold wiV coV wiB
  cases h : bvB a b c d e f with
  | false => simp
  | true =>
    obtain ⟨⟨ax0, ax1, ay0, ay1, az0, az1⟩, ⟨dx0, dx1, dy0, dy1, dz0, dz1⟩, hx, hy, hz⟩ := bvB_yes h
    cases bvB a' b' c' d' e' f' with
    | false => simp
    | true =>
      simp only [Bool.true_and]
      rw [Bool.eq_iff_iff]
      simp only [Bool.and_eq_true, decide_eq_true_eq]
      constructor
      · intro k; omega
      · intro k; omega
set_option maxHeartbeats 8000000 in
set_option maxRecDepth 100000 in
theorem contains_all (a b c d e f x y z : Int) (w : World) :
    Calls Try.prog 28 #[.agg #[.int .i64 a, .int .i64 b, .int .i64 c, .int .i64 d, .int .i64 e, .int .i64 f], .agg #[.int .i64 x, .int .i64 y, .int .i64 z]] w fun r w' => r = .returned (.bool (coV a b c d e f x y z)) ∧ Below w.heap.size w w' := by
  have W := Lib.hid fun w => within_all x y z x y z a b c d e f w
  rw [wi_pt] at W
  go_enter Try.func28, Try.ntmps28
  go_wp2_with fail
  with_reducible refine (W.out _).mono ?_
  rintro r w1 ⟨rfl, hb⟩
  go_wp2
  go_ret
  exact ⟨rfl, Buf.then_ (Buf.then_ (new_block _) (new_block _)) hb⟩
end Geo
end Go.Proofs.Ytmmikihkfpkapaa

/- The reference of layer 24 at any boxes: Center, Contains, Within, Hull, Split. -/
set_option linter.unusedVariables false
set_option linter.unusedSimpArgs false
namespace Go.Proofs.Ytmmikihkfpkapaa
open Go.RowKit
namespace Geo
set_option maxHeartbeats 8000000 in
set_option maxRecDepth 100000 in
theorem rcenter_1 (a b c d e f : Int) (k1 : bvB a b c d e f = false) (w : World) :
    Calls Try.prog 59 #[.agg #[.int .i64 a, .int .i64 b, .int .i64 c, .int .i64 d, .int .i64 e, .int .i64 f]] w fun r w' => r = .returned (.agg #[.int .i64 0, .int .i64 0, .int .i64 0]) ∧ Below w.heap.size w w' := by
  have V1 := Lib.hid fun w => rvalidBox_any a b c d e f w
  rw [k1] at V1
  clear k1
  have p1 := Lib.hid (blk_alloc (blk_new w (.cells #[.int .i64 a, .int .i64 b, .int .i64 c, .int .i64 d, .int .i64 e, .int .i64 f] 28)) (.cells #[.int .i64 0, .int .i64 0, .int .i64 0] 26))
  have p2 := Lib.hid (blk_new1 w (.cells #[.int .i64 a, .int .i64 b, .int .i64 c, .int .i64 d, .int .i64 e, .int .i64 f] 28) (.cells #[.int .i64 0, .int .i64 0, .int .i64 0] 26))
  have hA := Lib.hid (Buf.then_ (new_block (w := w) (.cells #[.int .i64 a, .int .i64 b, .int .i64 c, .int .i64 d, .int .i64 e, .int .i64 f] 28)) (new_block (.cells #[.int .i64 0, .int .i64 0, .int .i64 0] 26)))
  go_enter Try.func59, Try.ntmps59
  go_wp2_with fail
  with_reducible refine (V1.out _).mono ?_
  rintro r w1 ⟨rfl, hb⟩
  replace p2 := Lib.hid (blk_b hb p2.out)
  replace hA := Lib.hid (Buf.then_ hA.out hb)
  clear hb
  obtain ⟨e1, e2, e3, e4, e5, e6⟩ := cells3 p2.out
  go_wp2_with fail
  exact bodyPost_ret (results_cell_row rfl _ _ (w.heap.size + 1) _ _ _ _ rfl (st3 p2.out (.int .i64 0) (.int .i64 0) (.int .i64 0)) rfl (by rfl) rfl) rfl ⟨rfl, st3_below hA.out (by omega) (.int .i64 0) (.int .i64 0) (.int .i64 0)⟩
set_option maxHeartbeats 8000000 in
set_option maxRecDepth 100000 in
theorem rcenter_2 (a b c d e f : Int) (k1 : bvB a b c d e f = true) (w : World) :
    Calls Try.prog 59 #[.agg #[.int .i64 a, .int .i64 b, .int .i64 c, .int .i64 d, .int .i64 e, .int .i64 f]] w fun r w' => r = .returned (.agg #[.int .i64 (a + (d - a) / 2), .int .i64 (b + (e - b) / 2), .int .i64 (c + (f - c) / 2)]) ∧ Below w.heap.size w w' := by
  have V1 := Lib.hid fun w => rvalidBox_any a b c d e f w
  rw [k1] at V1
  obtain ⟨⟨ax0, ax1, ay0, ay1, az0, az1⟩, ⟨dx0, dx1, dy0, dy1, dz0, dz1⟩, hx, hy, hz⟩ := bvB_yes k1
  have M0 := Lib.hid fun w => rmiddle_yes a d w (by omega) (by omega) (by omega)
  have M1 := Lib.hid fun w => rmiddle_yes b e w (by omega) (by omega) (by omega)
  have M2 := Lib.hid fun w => rmiddle_yes c f w (by omega) (by omega) (by omega)
  clear k1
  generalize a + (d - a) / 2 = m0 at *
  generalize b + (e - b) / 2 = m1 at *
  generalize c + (f - c) / 2 = m2 at *
  have p1 := Lib.hid (blk_alloc (blk_new w (.cells #[.int .i64 a, .int .i64 b, .int .i64 c, .int .i64 d, .int .i64 e, .int .i64 f] 28)) (.cells #[.int .i64 0, .int .i64 0, .int .i64 0] 26))
  have p2 := Lib.hid (blk_new1 w (.cells #[.int .i64 a, .int .i64 b, .int .i64 c, .int .i64 d, .int .i64 e, .int .i64 f] 28) (.cells #[.int .i64 0, .int .i64 0, .int .i64 0] 26))
  have hA := Lib.hid (Buf.then_ (new_block (w := w) (.cells #[.int .i64 a, .int .i64 b, .int .i64 c, .int .i64 d, .int .i64 e, .int .i64 f] 28)) (new_block (.cells #[.int .i64 0, .int .i64 0, .int .i64 0] 26)))
  go_enter Try.func59, Try.ntmps59
  go_wp2_with fail
  with_reducible refine (V1.out _).mono ?_
  rintro r w1 ⟨rfl, hb⟩
  replace p1 := Lib.hid (blk_b hb p1.out)
  replace p2 := Lib.hid (blk_b hb p2.out)
  replace hA := Lib.hid (Buf.then_ hA.out hb)
  clear hb
  obtain ⟨u1, u2, u3, u4, u5, u6⟩ := cells6 p1.out
  obtain ⟨e1, e2, e3, e4, e5, e6⟩ := cells3 p2.out
  go_upto_region 3 with fail
  refine wp_region_noPanic ?_
  refine wp_region_any (by kernel_rfl) ?_
  refine Inv.wpAny_inv (fun k => k == 22) [7, 8, 9, 10, 11, 12, 13, 14, 15, 16, 17, 18, 19, 20, 21, 22, 23, 24, 25, 26, 27, 28] (fun w' => Below w1.heap.size w1 w') (fun _ w1 w2 => Below w1.heap.size w1 w2) (fun k => ([fun v_ w_ => v_ = .pointer (some ⟨w.heap.size, 0, none⟩), fun v_ w_ => v_ = .pointer (some ⟨w.heap.size, 0, none⟩), fun v_ w_ => v_ = .int .i64 a, fun v_ w_ => v_ = .pointer (some ⟨w.heap.size, 3, none⟩), fun v_ w_ => v_ = .pointer (some ⟨w.heap.size, 3, none⟩), fun v_ w_ => v_ = .int .i64 d, fun v_ w_ => v_ = .int .i64 m0, fun v_ w_ => v_ = .pointer (some ⟨w.heap.size, 0, none⟩), fun v_ w_ => v_ = .pointer (some ⟨w.heap.size, 1, none⟩), fun v_ w_ => v_ = .int .i64 b, fun v_ w_ => v_ = .pointer (some ⟨w.heap.size, 3, none⟩), fun v_ w_ => v_ = .pointer (some ⟨w.heap.size, 4, none⟩), fun v_ w_ => v_ = .int .i64 e, fun v_ w_ => v_ = .int .i64 m1, fun v_ w_ => v_ = .pointer (some ⟨w.heap.size, 0, none⟩), fun v_ w_ => v_ = .pointer (some ⟨w.heap.size, 2, none⟩), fun v_ w_ => v_ = .int .i64 c, fun v_ w_ => v_ = .pointer (some ⟨w.heap.size, 3, none⟩), fun v_ w_ => v_ = .pointer (some ⟨w.heap.size, 5, none⟩), fun v_ w_ => v_ = .int .i64 f, fun v_ w_ => v_ = .int .i64 m2, fun v_ w_ => v_ = .agg #[.int .i64 m0, .int .i64 m1, .int .i64 m2], fun v_ w_ => True] : List (Value → World → Prop)).getD k (fun _ _ => True)) _ (fun σ => by simp only [Inv.putAll, List.foldl_cons, List.foldl_nil, Act.put, List.setIfInBounds_toArray, List.set_cons_zero, List.set_cons_succ]; rfl) (by kernel_rfl) (by kernel_rfl) ?_ ((Below.refl _ _).drew) ?_ ?_ 1 #[true, true, true, true, true, true, true, true, true, true, true, true, true, true, true, true, true, true, true, true, true, true, false] (by kernel_rfl) (by kernel_rfl) ?_
  · intro j k v w1 w2 hjk hv hr
    rcases k with _ | k
    · exact hv
    rcases k with _ | k
    · exact hv
    rcases k with _ | k
    · exact hv
    rcases k with _ | k
    · exact hv
    rcases k with _ | k
    · exact hv
    rcases k with _ | k
    · exact hv
    rcases k with _ | k
    · exact hv
    rcases k with _ | k
    · exact hv
    rcases k with _ | k
    · exact hv
    rcases k with _ | k
    · exact hv
    rcases k with _ | k
    · exact hv
    rcases k with _ | k
    · exact hv
    rcases k with _ | k
    · exact hv
    rcases k with _ | k
    · exact hv
    rcases k with _ | k
    · exact hv
    rcases k with _ | k
    · exact hv
    rcases k with _ | k
    · exact hv
    rcases k with _ | k
    · exact hv
    rcases k with _ | k
    · exact hv
    rcases k with _ | k
    · exact hv
    rcases k with _ | k
    · exact hv
    rcases k with _ | k
    · exact hv
    rcases k with _ | k
    · exact hv
    · exact hv
  · intro k t hl hd
    rcases k with _ | k
    · exact absurd hl (by decide +kernel)
    rcases k with _ | k
    · exact absurd hl (by decide +kernel)
    rcases k with _ | k
    · exact absurd hl (by decide +kernel)
    rcases k with _ | k
    · exact absurd hl (by decide +kernel)
    rcases k with _ | k
    · exact absurd hl (by decide +kernel)
    rcases k with _ | k
    · exact absurd hl (by decide +kernel)
    rcases k with _ | k
    · exact absurd hl (by decide +kernel)
    rcases k with _ | k
    · exact absurd hl (by decide +kernel)
    rcases k with _ | k
    · exact absurd hl (by decide +kernel)
    rcases k with _ | k
    · exact absurd hl (by decide +kernel)
    rcases k with _ | k
    · exact absurd hl (by decide +kernel)
    rcases k with _ | k
    · exact absurd hl (by decide +kernel)
    rcases k with _ | k
    · exact absurd hl (by decide +kernel)
    rcases k with _ | k
    · exact absurd hl (by decide +kernel)
    rcases k with _ | k
    · exact absurd hl (by decide +kernel)
    rcases k with _ | k
    · exact absurd hl (by decide +kernel)
    rcases k with _ | k
    · exact absurd hl (by decide +kernel)
    rcases k with _ | k
    · exact absurd hl (by decide +kernel)
    rcases k with _ | k
    · exact absurd hl (by decide +kernel)
    rcases k with _ | k
    · exact absurd hl (by decide +kernel)
    rcases k with _ | k
    · exact absurd hl (by decide +kernel)
    rcases k with _ | k
    · exact absurd hl (by decide +kernel)
    rcases k with _ | k
    · exact absurd hl (by decide +kernel)
    · simp at hd
  · show Inv.Steps _ _ _ _ _ _ _ _ [0, 1, 2, 3, 4, 5, 6, 7, 8, 9, 10, 11, 12, 13, 14, 15, 16, 17, 18, 19, 20, 21]
    refine Inv.Steps.go (by decide) (by rfl) (fun σ wx hw hd K hK => ?_) ?_
    · simp only [List.getElem_toArray, List.getElem_cons_zero, List.getElem_cons_succ, Act.put, List.setIfInBounds_toArray, List.set_cons_zero, List.set_cons_succ] at hK ⊢
      go_simp
      exact hK.out _ _ hw (Below.refl _ _) (rfl)
    refine Inv.Steps.go (by decide) (by rfl) (fun σ wx hw hd K hK => ?_) ?_
    · obtain e7 : (σ 7) = .pointer (some ⟨w.heap.size, 0, none⟩) := hd 0 (some 7) (by kernel_rfl) (by rfl)
      simp only [List.getElem_toArray, List.getElem_cons_zero, List.getElem_cons_succ, Act.put, List.setIfInBounds_toArray, List.set_cons_zero, List.set_cons_succ, e7] at hK ⊢
      go_simp
      exact hK.out _ _ hw (Below.refl _ _) (rfl)
    refine Inv.Steps.go (by decide) (by rfl) (fun σ wx hw hd K hK => ?_) ?_
    · obtain e8 : (σ 8) = .pointer (some ⟨w.heap.size, 0, none⟩) := hd 1 (some 8) (by kernel_rfl) (by rfl)
      simp only [List.getElem_toArray, List.getElem_cons_zero, List.getElem_cons_succ, Act.put, List.setIfInBounds_toArray, List.set_cons_zero, List.set_cons_succ, e8] at hK ⊢
      obtain ⟨u1, u2, u3, u4, u5, u6⟩ := cells6 (blk_b hw p1.out)
      go_simp
      exact hK.out _ _ hw (Below.refl _ _) (rfl)
    refine Inv.Steps.go (by decide) (by rfl) (fun σ wx hw hd K hK => ?_) ?_
    · simp only [List.getElem_toArray, List.getElem_cons_zero, List.getElem_cons_succ, Act.put, List.setIfInBounds_toArray, List.set_cons_zero, List.set_cons_succ] at hK ⊢
      go_simp
      exact hK.out _ _ hw (Below.refl _ _) (rfl)
    refine Inv.Steps.go (by decide) (by rfl) (fun σ wx hw hd K hK => ?_) ?_
    · obtain e10 : (σ 10) = .pointer (some ⟨w.heap.size, 3, none⟩) := hd 3 (some 10) (by kernel_rfl) (by rfl)
      simp only [List.getElem_toArray, List.getElem_cons_zero, List.getElem_cons_succ, Act.put, List.setIfInBounds_toArray, List.set_cons_zero, List.set_cons_succ, e10] at hK ⊢
      go_simp
      exact hK.out _ _ hw (Below.refl _ _) (rfl)
    refine Inv.Steps.go (by decide) (by rfl) (fun σ wx hw hd K hK => ?_) ?_
    · obtain e11 : (σ 11) = .pointer (some ⟨w.heap.size, 3, none⟩) := hd 4 (some 11) (by kernel_rfl) (by rfl)
      simp only [List.getElem_toArray, List.getElem_cons_zero, List.getElem_cons_succ, Act.put, List.setIfInBounds_toArray, List.set_cons_zero, List.set_cons_succ, e11] at hK ⊢
      obtain ⟨u1, u2, u3, u4, u5, u6⟩ := cells6 (blk_b hw p1.out)
      go_simp
      exact hK.out _ _ hw (Below.refl _ _) (rfl)
    refine Inv.Steps.go (by decide) (by rfl) (fun σ wx hw hd K hK => ?_) ?_
    · obtain e9 : (σ 9) = .int .i64 a := hd 2 (some 9) (by kernel_rfl) (by rfl)
      obtain e12 : (σ 12) = .int .i64 d := hd 5 (some 12) (by kernel_rfl) (by rfl)
      simp only [List.getElem_toArray, List.getElem_cons_zero, List.getElem_cons_succ, Act.put, List.setIfInBounds_toArray, List.set_cons_zero, List.set_cons_succ, e9, e12] at hK ⊢
      go_simp
      go_at_call 95
      refine (M0.out _).mono ?_
      rintro e_ w_ ⟨rfl, hw_⟩
      replace hw_ := hw_.symm
      subst hw_
      dsimp only
      exact hK.out _ _ hw (Below.refl _ _) (rfl)
    refine Inv.Steps.go (by decide) (by rfl) (fun σ wx hw hd K hK => ?_) ?_
    · simp only [List.getElem_toArray, List.getElem_cons_zero, List.getElem_cons_succ, Act.put, List.setIfInBounds_toArray, List.set_cons_zero, List.set_cons_succ] at hK ⊢
      go_simp
      exact hK.out _ _ hw (Below.refl _ _) (rfl)
    refine Inv.Steps.go (by decide) (by rfl) (fun σ wx hw hd K hK => ?_) ?_
    · obtain e14 : (σ 14) = .pointer (some ⟨w.heap.size, 0, none⟩) := hd 7 (some 14) (by kernel_rfl) (by rfl)
      simp only [List.getElem_toArray, List.getElem_cons_zero, List.getElem_cons_succ, Act.put, List.setIfInBounds_toArray, List.set_cons_zero, List.set_cons_succ, e14] at hK ⊢
      go_simp
      exact hK.out _ _ hw (Below.refl _ _) (rfl)
    refine Inv.Steps.go (by decide) (by rfl) (fun σ wx hw hd K hK => ?_) ?_
    · obtain e15 : (σ 15) = .pointer (some ⟨w.heap.size, 1, none⟩) := hd 8 (some 15) (by kernel_rfl) (by rfl)
      simp only [List.getElem_toArray, List.getElem_cons_zero, List.getElem_cons_succ, Act.put, List.setIfInBounds_toArray, List.set_cons_zero, List.set_cons_succ, e15] at hK ⊢
      obtain ⟨u1, u2, u3, u4, u5, u6⟩ := cells6 (blk_b hw p1.out)
      go_simp
      exact hK.out _ _ hw (Below.refl _ _) (rfl)
    refine Inv.Steps.go (by decide) (by rfl) (fun σ wx hw hd K hK => ?_) ?_
    · simp only [List.getElem_toArray, List.getElem_cons_zero, List.getElem_cons_succ, Act.put, List.setIfInBounds_toArray, List.set_cons_zero, List.set_cons_succ] at hK ⊢
      go_simp
      exact hK.out _ _ hw (Below.refl _ _) (rfl)
    refine Inv.Steps.go (by decide) (by rfl) (fun σ wx hw hd K hK => ?_) ?_
    · obtain e17 : (σ 17) = .pointer (some ⟨w.heap.size, 3, none⟩) := hd 10 (some 17) (by kernel_rfl) (by rfl)
      simp only [List.getElem_toArray, List.getElem_cons_zero, List.getElem_cons_succ, Act.put, List.setIfInBounds_toArray, List.set_cons_zero, List.set_cons_succ, e17] at hK ⊢
      go_simp
      exact hK.out _ _ hw (Below.refl _ _) (rfl)
    refine Inv.Steps.go (by decide) (by rfl) (fun σ wx hw hd K hK => ?_) ?_
    · obtain e18 : (σ 18) = .pointer (some ⟨w.heap.size, 4, none⟩) := hd 11 (some 18) (by kernel_rfl) (by rfl)
      simp only [List.getElem_toArray, List.getElem_cons_zero, List.getElem_cons_succ, Act.put, List.setIfInBounds_toArray, List.set_cons_zero, List.set_cons_succ, e18] at hK ⊢
      obtain ⟨u1, u2, u3, u4, u5, u6⟩ := cells6 (blk_b hw p1.out)
      go_simp
      exact hK.out _ _ hw (Below.refl _ _) (rfl)
    refine Inv.Steps.go (by decide) (by rfl) (fun σ wx hw hd K hK => ?_) ?_
    · obtain e16 : (σ 16) = .int .i64 b := hd 9 (some 16) (by kernel_rfl) (by rfl)
      obtain e19 : (σ 19) = .int .i64 e := hd 12 (some 19) (by kernel_rfl) (by rfl)
      simp only [List.getElem_toArray, List.getElem_cons_zero, List.getElem_cons_succ, Act.put, List.setIfInBounds_toArray, List.set_cons_zero, List.set_cons_succ, e16, e19] at hK ⊢
      go_simp
      go_at_call 95
      refine (M1.out _).mono ?_
      rintro e_ w_ ⟨rfl, hw_⟩
      replace hw_ := hw_.symm
      subst hw_
      dsimp only
      exact hK.out _ _ hw (Below.refl _ _) (rfl)
    refine Inv.Steps.go (by decide) (by rfl) (fun σ wx hw hd K hK => ?_) ?_
    · simp only [List.getElem_toArray, List.getElem_cons_zero, List.getElem_cons_succ, Act.put, List.setIfInBounds_toArray, List.set_cons_zero, List.set_cons_succ] at hK ⊢
      go_simp
      exact hK.out _ _ hw (Below.refl _ _) (rfl)
    refine Inv.Steps.go (by decide) (by rfl) (fun σ wx hw hd K hK => ?_) ?_
    · obtain e21 : (σ 21) = .pointer (some ⟨w.heap.size, 0, none⟩) := hd 14 (some 21) (by kernel_rfl) (by rfl)
      simp only [List.getElem_toArray, List.getElem_cons_zero, List.getElem_cons_succ, Act.put, List.setIfInBounds_toArray, List.set_cons_zero, List.set_cons_succ, e21] at hK ⊢
      go_simp
      exact hK.out _ _ hw (Below.refl _ _) (rfl)
    refine Inv.Steps.go (by decide) (by rfl) (fun σ wx hw hd K hK => ?_) ?_
    · obtain e22 : (σ 22) = .pointer (some ⟨w.heap.size, 2, none⟩) := hd 15 (some 22) (by kernel_rfl) (by rfl)
      simp only [List.getElem_toArray, List.getElem_cons_zero, List.getElem_cons_succ, Act.put, List.setIfInBounds_toArray, List.set_cons_zero, List.set_cons_succ, e22] at hK ⊢
      obtain ⟨u1, u2, u3, u4, u5, u6⟩ := cells6 (blk_b hw p1.out)
      go_simp
      exact hK.out _ _ hw (Below.refl _ _) (rfl)
    refine Inv.Steps.go (by decide) (by rfl) (fun σ wx hw hd K hK => ?_) ?_
    · simp only [List.getElem_toArray, List.getElem_cons_zero, List.getElem_cons_succ, Act.put, List.setIfInBounds_toArray, List.set_cons_zero, List.set_cons_succ] at hK ⊢
      go_simp
      exact hK.out _ _ hw (Below.refl _ _) (rfl)
    refine Inv.Steps.go (by decide) (by rfl) (fun σ wx hw hd K hK => ?_) ?_
    · obtain e24 : (σ 24) = .pointer (some ⟨w.heap.size, 3, none⟩) := hd 17 (some 24) (by kernel_rfl) (by rfl)
      simp only [List.getElem_toArray, List.getElem_cons_zero, List.getElem_cons_succ, Act.put, List.setIfInBounds_toArray, List.set_cons_zero, List.set_cons_succ, e24] at hK ⊢
      go_simp
      exact hK.out _ _ hw (Below.refl _ _) (rfl)
    refine Inv.Steps.go (by decide) (by rfl) (fun σ wx hw hd K hK => ?_) ?_
    · obtain e25 : (σ 25) = .pointer (some ⟨w.heap.size, 5, none⟩) := hd 18 (some 25) (by kernel_rfl) (by rfl)
      simp only [List.getElem_toArray, List.getElem_cons_zero, List.getElem_cons_succ, Act.put, List.setIfInBounds_toArray, List.set_cons_zero, List.set_cons_succ, e25] at hK ⊢
      obtain ⟨u1, u2, u3, u4, u5, u6⟩ := cells6 (blk_b hw p1.out)
      go_simp
      exact hK.out _ _ hw (Below.refl _ _) (rfl)
    refine Inv.Steps.go (by decide) (by rfl) (fun σ wx hw hd K hK => ?_) ?_
    · obtain e23 : (σ 23) = .int .i64 c := hd 16 (some 23) (by kernel_rfl) (by rfl)
      obtain e26 : (σ 26) = .int .i64 f := hd 19 (some 26) (by kernel_rfl) (by rfl)
      simp only [List.getElem_toArray, List.getElem_cons_zero, List.getElem_cons_succ, Act.put, List.setIfInBounds_toArray, List.set_cons_zero, List.set_cons_succ, e23, e26] at hK ⊢
      go_simp
      go_at_call 95
      refine (M2.out _).mono ?_
      rintro e_ w_ ⟨rfl, hw_⟩
      replace hw_ := hw_.symm
      subst hw_
      dsimp only
      exact hK.out _ _ hw (Below.refl _ _) (rfl)
    refine Inv.Steps.go (by decide) (by rfl) (fun σ wx hw hd K hK => ?_) ?_
    · obtain e13 : (σ 13) = .int .i64 m0 := hd 6 (some 13) (by kernel_rfl) (by rfl)
      obtain e20 : (σ 20) = .int .i64 m1 := hd 13 (some 20) (by kernel_rfl) (by rfl)
      obtain e27 : (σ 27) = .int .i64 m2 := hd 20 (some 27) (by kernel_rfl) (by rfl)
      simp only [List.getElem_toArray, List.getElem_cons_zero, List.getElem_cons_succ, Act.put, List.setIfInBounds_toArray, List.set_cons_zero, List.set_cons_succ, e13, e20, e27] at hK ⊢
      go_simp
      exact hK.out _ _ hw (Below.refl _ _) (rfl)
    exact Inv.Steps.nil
  · intro σ wx hw hd
    obtain e28 : (σ 28) = .agg #[.int .i64 m0, .int .i64 m1, .int .i64 m2] := hd 21 (some 28) (by rfl) (by rfl)
    simp only [e28]
    obtain ⟨e1, e2, e3, e4, e5, e6⟩ := cells3 (blk_b hw p2.out)
    have p2x := Lib.hid (blk_b hw p2.out)
    replace hA := Lib.hid (Buf.then_ hA.out hw)
    refine Inv.one (i := 22) (by decide) (by kernel_rfl) (by rfl) (fun K hK => ?_)
    simp only [List.getElem_toArray, List.getElem_cons_zero, List.getElem_cons_succ, Act.put, List.setIfInBounds_toArray, List.set_cons_zero, List.set_cons_succ] at hK ⊢
    go_simp
    refine hK.out _ _ (Inv.done (by kernel_rfl) (NoPanic.normal ?_))
    clear hK K hd hw
    go_wp2
    exact bodyPost_ret (results_cell_row rfl _ _ (w.heap.size + 1) _ _ _ _ rfl (st3 p2x.out (.int .i64 m0) (.int .i64 m1) (.int .i64 m2)) rfl (by rfl) rfl) rfl ⟨rfl, st3_below hA.out (by omega) (.int .i64 m0) (.int .i64 m1) (.int .i64 m2)⟩
set_option maxHeartbeats 8000000 in
set_option maxRecDepth 100000 in
theorem rcon_0 (a b c d e f x y z : Int) (k1 : bvB a b c d e f = false) (w : World) :
    Calls Try.prog 62 #[.agg #[.int .i64 a, .int .i64 b, .int .i64 c, .int .i64 d, .int .i64 e, .int .i64 f], .agg #[.int .i64 x, .int .i64 y, .int .i64 z]] w fun r w' => r = .returned (.bool false) ∧ Below w.heap.size w w' := by
  have V1 := Lib.hid fun w => rvalidBox_any a b c d e f w
  rw [k1] at V1
  clear k1
  have p1 := Lib.hid (blk_alloc (blk_new w (.cells #[.int .i64 a, .int .i64 b, .int .i64 c, .int .i64 d, .int .i64 e, .int .i64 f] 28)) (.cells #[.int .i64 x, .int .i64 y, .int .i64 z] 26))
  have p2 := Lib.hid (blk_new1 w (.cells #[.int .i64 a, .int .i64 b, .int .i64 c, .int .i64 d, .int .i64 e, .int .i64 f] 28) (.cells #[.int .i64 x, .int .i64 y, .int .i64 z] 26))
  have hA := Lib.hid (Buf.then_ (new_block (w := w) (.cells #[.int .i64 a, .int .i64 b, .int .i64 c, .int .i64 d, .int .i64 e, .int .i64 f] 28)) (new_block (.cells #[.int .i64 x, .int .i64 y, .int .i64 z] 26)))
  go_enter Try.func62, Try.ntmps62
  go_wp2_with fail
  with_reducible refine (V1.out _).mono ?_
  rintro r w1 ⟨rfl, hb⟩
  replace p1 := Lib.hid (blk_b hb p1.out)
  replace p2 := Lib.hid (blk_b hb p2.out)
  replace hA := Lib.hid (Buf.then_ hA.out hb)
  clear hb
  go_wp2_with fail
  go_ret
  exact ⟨rfl, hA.out⟩
set_option maxHeartbeats 8000000 in
set_option maxRecDepth 100000 in
theorem rcon_1 (a b c d e f x y z : Int) (k1 : bvB a b c d e f = true) (n0 : x < a) (w : World) :
    Calls Try.prog 62 #[.agg #[.int .i64 a, .int .i64 b, .int .i64 c, .int .i64 d, .int .i64 e, .int .i64 f], .agg #[.int .i64 x, .int .i64 y, .int .i64 z]] w fun r w' => r = .returned (.bool false) ∧ Below w.heap.size w w' := by
  have V1 := Lib.hid fun w => rvalidBox_any a b c d e f w
  rw [k1] at V1
  clear k1
  have p1 := Lib.hid (blk_alloc (blk_new w (.cells #[.int .i64 a, .int .i64 b, .int .i64 c, .int .i64 d, .int .i64 e, .int .i64 f] 28)) (.cells #[.int .i64 x, .int .i64 y, .int .i64 z] 26))
  have p2 := Lib.hid (blk_new1 w (.cells #[.int .i64 a, .int .i64 b, .int .i64 c, .int .i64 d, .int .i64 e, .int .i64 f] 28) (.cells #[.int .i64 x, .int .i64 y, .int .i64 z] 26))
  have hA := Lib.hid (Buf.then_ (new_block (w := w) (.cells #[.int .i64 a, .int .i64 b, .int .i64 c, .int .i64 d, .int .i64 e, .int .i64 f] 28)) (new_block (.cells #[.int .i64 x, .int .i64 y, .int .i64 z] 26)))
  go_enter Try.func62, Try.ntmps62
  go_wp2_with fail
  with_reducible refine (V1.out _).mono ?_
  rintro r w1 ⟨rfl, hb⟩
  replace p1 := Lib.hid (blk_b hb p1.out)
  replace p2 := Lib.hid (blk_b hb p2.out)
  replace hA := Lib.hid (Buf.then_ hA.out hb)
  clear hb
  obtain ⟨u1, u2, u3, u4, u5, u6⟩ := cells6 p1.out
  obtain ⟨q1, q2, q3, _, _, _⟩ := cells3 p2.out
  go_wp2_with fail
  go_ret
  exact ⟨rfl, hA.out⟩
set_option maxHeartbeats 8000000 in
set_option maxRecDepth 100000 in
theorem rcon_2 (a b c d e f x y z : Int) (k1 : bvB a b c d e f = true) (c0 : a ≤ x) (n1 : d < x) (w : World) :
    Calls Try.prog 62 #[.agg #[.int .i64 a, .int .i64 b, .int .i64 c, .int .i64 d, .int .i64 e, .int .i64 f], .agg #[.int .i64 x, .int .i64 y, .int .i64 z]] w fun r w' => r = .returned (.bool false) ∧ Below w.heap.size w w' := by
  have V1 := Lib.hid fun w => rvalidBox_any a b c d e f w
  rw [k1] at V1
  clear k1
  have p1 := Lib.hid (blk_alloc (blk_new w (.cells #[.int .i64 a, .int .i64 b, .int .i64 c, .int .i64 d, .int .i64 e, .int .i64 f] 28)) (.cells #[.int .i64 x, .int .i64 y, .int .i64 z] 26))
  have p2 := Lib.hid (blk_new1 w (.cells #[.int .i64 a, .int .i64 b, .int .i64 c, .int .i64 d, .int .i64 e, .int .i64 f] 28) (.cells #[.int .i64 x, .int .i64 y, .int .i64 z] 26))
  have hA := Lib.hid (Buf.then_ (new_block (w := w) (.cells #[.int .i64 a, .int .i64 b, .int .i64 c, .int .i64 d, .int .i64 e, .int .i64 f] 28)) (new_block (.cells #[.int .i64 x, .int .i64 y, .int .i64 z] 26)))
  go_enter Try.func62, Try.ntmps62
  go_wp2_with fail
  with_reducible refine (V1.out _).mono ?_
  rintro r w1 ⟨rfl, hb⟩
  replace p1 := Lib.hid (blk_b hb p1.out)
  replace p2 := Lib.hid (blk_b hb p2.out)
  replace hA := Lib.hid (Buf.then_ hA.out hb)
  clear hb
  obtain ⟨u1, u2, u3, u4, u5, u6⟩ := cells6 p1.out
  obtain ⟨q1, q2, q3, _, _, _⟩ := cells3 p2.out
  go_wp2_with fail
  go_ret
  exact ⟨rfl, hA.out⟩
set_option maxHeartbeats 8000000 in
set_option maxRecDepth 100000 in
theorem rcon_3 (a b c d e f x y z : Int) (k1 : bvB a b c d e f = true) (c0 : a ≤ x) (c1 : x ≤ d) (n2 : y < b) (w : World) :
    Calls Try.prog 62 #[.agg #[.int .i64 a, .int .i64 b, .int .i64 c, .int .i64 d, .int .i64 e, .int .i64 f], .agg #[.int .i64 x, .int .i64 y, .int .i64 z]] w fun r w' => r = .returned (.bool false) ∧ Below w.heap.size w w' := by
  have V1 := Lib.hid fun w => rvalidBox_any a b c d e f w
  rw [k1] at V1
  clear k1
  have p1 := Lib.hid (blk_alloc (blk_new w (.cells #[.int .i64 a, .int .i64 b, .int .i64 c, .int .i64 d, .int .i64 e, .int .i64 f] 28)) (.cells #[.int .i64 x, .int .i64 y, .int .i64 z] 26))
  have p2 := Lib.hid (blk_new1 w (.cells #[.int .i64 a, .int .i64 b, .int .i64 c, .int .i64 d, .int .i64 e, .int .i64 f] 28) (.cells #[.int .i64 x, .int .i64 y, .int .i64 z] 26))
  have hA := Lib.hid (Buf.then_ (new_block (w := w) (.cells #[.int .i64 a, .int .i64 b, .int .i64 c, .int .i64 d, .int .i64 e, .int .i64 f] 28)) (new_block (.cells #[.int .i64 x, .int .i64 y, .int .i64 z] 26)))
  go_enter Try.func62, Try.ntmps62
  go_wp2_with fail
  with_reducible refine (V1.out _).mono ?_
  rintro r w1 ⟨rfl, hb⟩
  replace p1 := Lib.hid (blk_b hb p1.out)
  replace p2 := Lib.hid (blk_b hb p2.out)
  replace hA := Lib.hid (Buf.then_ hA.out hb)
  clear hb
  obtain ⟨u1, u2, u3, u4, u5, u6⟩ := cells6 p1.out
  obtain ⟨q1, q2, q3, _, _, _⟩ := cells3 p2.out
  go_wp2_with fail
  go_ret
  exact ⟨rfl, hA.out⟩
set_option maxHeartbeats 8000000 in
set_option maxRecDepth 100000 in
theorem rcon_4 (a b c d e f x y z : Int) (k1 : bvB a b c d e f = true) (c0 : a ≤ x) (c1 : x ≤ d) (c2 : b ≤ y) (n3 : e < y) (w : World) :
    Calls Try.prog 62 #[.agg #[.int .i64 a, .int .i64 b, .int .i64 c, .int .i64 d, .int .i64 e, .int .i64 f], .agg #[.int .i64 x, .int .i64 y, .int .i64 z]] w fun r w' => r = .returned (.bool false) ∧ Below w.heap.size w w' := by
  have V1 := Lib.hid fun w => rvalidBox_any a b c d e f w
  rw [k1] at V1
  clear k1
  have p1 := Lib.hid (blk_alloc (blk_new w (.cells #[.int .i64 a, .int .i64 b, .int .i64 c, .int .i64 d, .int .i64 e, .int .i64 f] 28)) (.cells #[.int .i64 x, .int .i64 y, .int .i64 z] 26))
  have p2 := Lib.hid (blk_new1 w (.cells #[.int .i64 a, .int .i64 b, .int .i64 c, .int .i64 d, .int .i64 e, .int .i64 f] 28) (.cells #[.int .i64 x, .int .i64 y, .int .i64 z] 26))
  have hA := Lib.hid (Buf.then_ (new_block (w := w) (.cells #[.int .i64 a, .int .i64 b, .int .i64 c, .int .i64 d, .int .i64 e, .int .i64 f] 28)) (new_block (.cells #[.int .i64 x, .int .i64 y, .int .i64 z] 26)))
  go_enter Try.func62, Try.ntmps62
  go_wp2_with fail
  with_reducible refine (V1.out _).mono ?_
  rintro r w1 ⟨rfl, hb⟩
  replace p1 := Lib.hid (blk_b hb p1.out)
  replace p2 := Lib.hid (blk_b hb p2.out)
  replace hA := Lib.hid (Buf.then_ hA.out hb)
  clear hb
  obtain ⟨u1, u2, u3, u4, u5, u6⟩ := cells6 p1.out
  obtain ⟨q1, q2, q3, _, _, _⟩ := cells3 p2.out
  go_wp2_with fail
  go_ret
  exact ⟨rfl, hA.out⟩
set_option maxHeartbeats 8000000 in
set_option maxRecDepth 100000 in
theorem rcon_5 (a b c d e f x y z : Int) (k1 : bvB a b c d e f = true) (c0 : a ≤ x) (c1 : x ≤ d) (c2 : b ≤ y) (c3 : y ≤ e) (n4 : z < c) (w : World) :
    Calls Try.prog 62 #[.agg #[.int .i64 a, .int .i64 b, .int .i64 c, .int .i64 d, .int .i64 e, .int .i64 f], .agg #[.int .i64 x, .int .i64 y, .int .i64 z]] w fun r w' => r = .returned (.bool false) ∧ Below w.heap.size w w' := by
  have V1 := Lib.hid fun w => rvalidBox_any a b c d e f w
  rw [k1] at V1
  clear k1
  have p1 := Lib.hid (blk_alloc (blk_new w (.cells #[.int .i64 a, .int .i64 b, .int .i64 c, .int .i64 d, .int .i64 e, .int .i64 f] 28)) (.cells #[.int .i64 x, .int .i64 y, .int .i64 z] 26))
  have p2 := Lib.hid (blk_new1 w (.cells #[.int .i64 a, .int .i64 b, .int .i64 c, .int .i64 d, .int .i64 e, .int .i64 f] 28) (.cells #[.int .i64 x, .int .i64 y, .int .i64 z] 26))
  have hA := Lib.hid (Buf.then_ (new_block (w := w) (.cells #[.int .i64 a, .int .i64 b, .int .i64 c, .int .i64 d, .int .i64 e, .int .i64 f] 28)) (new_block (.cells #[.int .i64 x, .int .i64 y, .int .i64 z] 26)))
  go_enter Try.func62, Try.ntmps62
  go_wp2_with fail
  with_reducible refine (V1.out _).mono ?_
  rintro r w1 ⟨rfl, hb⟩
  replace p1 := Lib.hid (blk_b hb p1.out)
  replace p2 := Lib.hid (blk_b hb p2.out)
  replace hA := Lib.hid (Buf.then_ hA.out hb)
  clear hb
  obtain ⟨u1, u2, u3, u4, u5, u6⟩ := cells6 p1.out
  obtain ⟨q1, q2, q3, _, _, _⟩ := cells3 p2.out
  go_wp2_with fail
  go_ret
  exact ⟨rfl, hA.out⟩
set_option maxHeartbeats 8000000 in
set_option maxRecDepth 100000 in
theorem rcon_6 (a b c d e f x y z : Int) (k1 : bvB a b c d e f = true) (c0 : a ≤ x) (c1 : x ≤ d) (c2 : b ≤ y) (c3 : y ≤ e) (c4 : c ≤ z) (w : World) :
    Calls Try.prog 62 #[.agg #[.int .i64 a, .int .i64 b, .int .i64 c, .int .i64 d, .int .i64 e, .int .i64 f], .agg #[.int .i64 x, .int .i64 y, .int .i64 z]] w fun r w' => r = .returned (.bool (decide (z ≤ f))) ∧ Below w.heap.size w w' := by
  have V1 := Lib.hid fun w => rvalidBox_any a b c d e f w
  rw [k1] at V1
  clear k1
  have p1 := Lib.hid (blk_alloc (blk_new w (.cells #[.int .i64 a, .int .i64 b, .int .i64 c, .int .i64 d, .int .i64 e, .int .i64 f] 28)) (.cells #[.int .i64 x, .int .i64 y, .int .i64 z] 26))
  have p2 := Lib.hid (blk_new1 w (.cells #[.int .i64 a, .int .i64 b, .int .i64 c, .int .i64 d, .int .i64 e, .int .i64 f] 28) (.cells #[.int .i64 x, .int .i64 y, .int .i64 z] 26))
  have hA := Lib.hid (Buf.then_ (new_block (w := w) (.cells #[.int .i64 a, .int .i64 b, .int .i64 c, .int .i64 d, .int .i64 e, .int .i64 f] 28)) (new_block (.cells #[.int .i64 x, .int .i64 y, .int .i64 z] 26)))
  go_enter Try.func62, Try.ntmps62
  go_wp2_with fail
  with_reducible refine (V1.out _).mono ?_
  rintro r w1 ⟨rfl, hb⟩
  replace p1 := Lib.hid (blk_b hb p1.out)
  replace p2 := Lib.hid (blk_b hb p2.out)
  replace hA := Lib.hid (Buf.then_ hA.out hb)
  clear hb
  obtain ⟨u1, u2, u3, u4, u5, u6⟩ := cells6 p1.out
  obtain ⟨q1, q2, q3, _, _, _⟩ := cells3 p2.out
  go_wp2_with fail
  go_ret
  exact ⟨rfl, hA.out⟩
theorem rcontains_any (a b c d e f x y z : Int) (w : World) :
    Calls Try.prog 62 #[.agg #[.int .i64 a, .int .i64 b, .int .i64 c, .int .i64 d, .int .i64 e, .int .i64 f], .agg #[.int .i64 x, .int .i64 y, .int .i64 z]] w fun r w' => r = .returned (.bool (coV a b c d e f x y z)) ∧ Below w.heap.size w w' := by
  have e0 : coV a b c d e f x y z = (bvB a b c d e f && (decide (a ≤ x) && (decide (x ≤ d) && (decide (b ≤ y) && (decide (y ≤ e) && (decide (c ≤ z) && decide (z ≤ f))))))) := by
    unfold coV
    rw [Bool.eq_iff_iff]
    simp only [Bool.and_eq_true, decide_eq_true_eq]
  rw [e0]
  cases k1 : bvB a b c d e f with
  | false => exact rcon_0 a b c d e f x y z k1 w
  | true =>
    rw [Bool.true_and]
    by_cases c0 : a ≤ x
    · rw [decide_eq_true c0, Bool.true_and]
      by_cases c1 : x ≤ d
      · rw [decide_eq_true c1, Bool.true_and]
        by_cases c2 : b ≤ y
        · rw [decide_eq_true c2, Bool.true_and]
          by_cases c3 : y ≤ e
          · rw [decide_eq_true c3, Bool.true_and]
            by_cases c4 : c ≤ z
            · rw [decide_eq_true c4, Bool.true_and]
              exact rcon_6 a b c d e f x y z k1 c0 c1 c2 c3 c4 w
            · rw [decide_eq_false c4, Bool.false_and]
              exact rcon_5 a b c d e f x y z k1 c0 c1 c2 c3 (by omega) w
          · rw [decide_eq_false c3, Bool.false_and]
            exact rcon_4 a b c d e f x y z k1 c0 c1 c2 (by omega) w
        · rw [decide_eq_false c2, Bool.false_and]
          exact rcon_3 a b c d e f x y z k1 c0 c1 (by omega) w
      · rw [decide_eq_false c1, Bool.false_and]
        exact rcon_2 a b c d e f x y z k1 c0 (by omega) w
    · rw [decide_eq_false c0, Bool.false_and]
      exact rcon_1 a b c d e f x y z k1  (by omega) w
set_option maxHeartbeats 8000000 in
set_option maxRecDepth 100000 in
theorem rwithin_any (a b c d e f a' b' c' d' e' f' : Int) (w : World) :
    Calls Try.prog 63 #[.agg #[.int .i64 a, .int .i64 b, .int .i64 c, .int .i64 d, .int .i64 e, .int .i64 f], .agg #[.int .i64 a', .int .i64 b', .int .i64 c', .int .i64 d', .int .i64 e', .int .i64 f']] w fun r w' => r = .returned (.bool (wiV a b c d e f a' b' c' d' e' f')) ∧ Below w.heap.size w w' := by
  rw [wi_co]
  have V1 := Lib.hid fun w => rvalidBox_any a b c d e f w
  have V2 := Lib.hid fun w => rcontains_any a' b' c' d' e' f' a b c w
  have V3 := Lib.hid fun w => rcontains_any a' b' c' d' e' f' d e f w
  generalize bvB a b c d e f = v1 at *
  generalize coV a' b' c' d' e' f' a b c = v2 at *
  generalize coV a' b' c' d' e' f' d e f = v3 at *
  have p1 := Lib.hid (blk_alloc (blk_new w (.cells #[.int .i64 a, .int .i64 b, .int .i64 c, .int .i64 d, .int .i64 e, .int .i64 f] 28)) (.cells #[.int .i64 a', .int .i64 b', .int .i64 c', .int .i64 d', .int .i64 e', .int .i64 f'] 28))
  have p2 := Lib.hid (blk_new1 w (.cells #[.int .i64 a, .int .i64 b, .int .i64 c, .int .i64 d, .int .i64 e, .int .i64 f] 28) (.cells #[.int .i64 a', .int .i64 b', .int .i64 c', .int .i64 d', .int .i64 e', .int .i64 f'] 28))
  have hA := Lib.hid (Buf.then_ (new_block (w := w) (.cells #[.int .i64 a, .int .i64 b, .int .i64 c, .int .i64 d, .int .i64 e, .int .i64 f] 28)) (new_block (.cells #[.int .i64 a', .int .i64 b', .int .i64 c', .int .i64 d', .int .i64 e', .int .i64 f'] 28)))
  go_enter Try.func63, Try.ntmps63
  go_wp2_with fail
  with_reducible refine (V1.out _).mono ?_
  rintro r w1 ⟨rfl, hb⟩
  replace p1 := Lib.hid (blk_b hb p1.out)
  replace p2 := Lib.hid (blk_b hb p2.out)
  replace hA := Lib.hid (Buf.then_ hA.out hb)
  clear hb
  cases v1 with
  | false =>
    go_wp2_with fail
    go_ret
    exact ⟨rfl, hA.out⟩
  | true =>
    obtain ⟨u1, u2, u3, u4, u5, u6⟩ := cells6 p1.out
    obtain ⟨q1, q2, q3, q4, q5, q6⟩ := cells6 p2.out
    go_wp2_with fail
    with_reducible refine (V2.out _).mono ?_
    rintro r w2 ⟨rfl, hb⟩
    replace p1 := Lib.hid (blk_b hb p1.out)
    replace p2 := Lib.hid (blk_b hb p2.out)
    replace hA := Lib.hid (Buf.then_ hA.out hb)
    clear hb
    cases v2 with
    | false =>
      go_wp2_with fail
      go_ret
      exact ⟨rfl, hA.out⟩
    | true =>
      clear u1 u2 u3 u4 u5 u6 q1 q2 q3 q4 q5 q6
      obtain ⟨u1, u2, u3, u4, u5, u6⟩ := cells6 p1.out
      obtain ⟨q1, q2, q3, q4, q5, q6⟩ := cells6 p2.out
      go_wp2_with fail
      with_reducible refine (V3.out _).mono ?_
      rintro r w3 ⟨rfl, hb⟩
      replace hA := Lib.hid (Buf.then_ hA.out hb)
      clear hb
      go_wp2_with fail
      go_ret
      exact ⟨rfl, hA.out⟩
set_option maxHeartbeats 8000000 in
set_option maxRecDepth 100000 in
theorem rhull_1 (a b c d e f a' b' c' d' e' f' : Int) (k1 : bvB a b c d e f = false) (w : World) :
    Calls Try.prog 64 #[.agg #[.int .i64 a, .int .i64 b, .int .i64 c, .int .i64 d, .int .i64 e, .int .i64 f], .agg #[.int .i64 a', .int .i64 b', .int .i64 c', .int .i64 d', .int .i64 e', .int .i64 f']] w fun r w' => r = .returned (.agg #[.int .i64 0, .int .i64 0, .int .i64 0, .int .i64 0, .int .i64 0, .int .i64 0]) ∧ Below w.heap.size w w' := by
  have V1 := Lib.hid fun w => rvalidBox_any a b c d e f w
  rw [k1] at V1
  clear k1
  have p1 := Lib.hid (blk_alloc (blk_alloc (blk_new w (.cells #[.int .i64 a, .int .i64 b, .int .i64 c, .int .i64 d, .int .i64 e, .int .i64 f] 28)) (.cells #[.int .i64 a', .int .i64 b', .int .i64 c', .int .i64 d', .int .i64 e', .int .i64 f'] 28)) (.cells #[.int .i64 0, .int .i64 0, .int .i64 0, .int .i64 0, .int .i64 0, .int .i64 0] 28))
  have p2 := Lib.hid (blk_alloc (blk_new1 w (.cells #[.int .i64 a, .int .i64 b, .int .i64 c, .int .i64 d, .int .i64 e, .int .i64 f] 28) (.cells #[.int .i64 a', .int .i64 b', .int .i64 c', .int .i64 d', .int .i64 e', .int .i64 f'] 28)) (.cells #[.int .i64 0, .int .i64 0, .int .i64 0, .int .i64 0, .int .i64 0, .int .i64 0] 28))
  have p3 := Lib.hid (blk_new2 w (.cells #[.int .i64 a, .int .i64 b, .int .i64 c, .int .i64 d, .int .i64 e, .int .i64 f] 28) (.cells #[.int .i64 a', .int .i64 b', .int .i64 c', .int .i64 d', .int .i64 e', .int .i64 f'] 28) (.cells #[.int .i64 0, .int .i64 0, .int .i64 0, .int .i64 0, .int .i64 0, .int .i64 0] 28))
  have hA := Lib.hid (Buf.then_ (Buf.then_ (new_block (w := w) (.cells #[.int .i64 a, .int .i64 b, .int .i64 c, .int .i64 d, .int .i64 e, .int .i64 f] 28)) (new_block (.cells #[.int .i64 a', .int .i64 b', .int .i64 c', .int .i64 d', .int .i64 e', .int .i64 f'] 28))) (new_block (.cells #[.int .i64 0, .int .i64 0, .int .i64 0, .int .i64 0, .int .i64 0, .int .i64 0] 28)))
  go_enter Try.func64, Try.ntmps64
  go_wp2_with fail
  with_reducible refine (V1.out _).mono ?_
  rintro r w1 ⟨rfl, hb⟩
  replace p2 := Lib.hid (blk_b hb p2.out)
  replace p3 := Lib.hid (blk_b hb p3.out)
  replace hA := Lib.hid (Buf.then_ hA.out hb)
  clear hb
  obtain ⟨e1, e2, e3, e4, e5, e6, e7, e8, e9, e10, e11, e12⟩ := cells6f p3.out
  go_wp2_with fail
  exact bodyPost_ret (results_cell_row rfl _ _ (w.heap.size + 1 + 1) _ _ _ _ rfl (st6 p3.out (.int .i64 0) (.int .i64 0) (.int .i64 0) (.int .i64 0) (.int .i64 0) (.int .i64 0)) rfl (by rfl) rfl) rfl ⟨rfl, st6_below hA.out (by omega) (.int .i64 0) (.int .i64 0) (.int .i64 0) (.int .i64 0) (.int .i64 0) (.int .i64 0)⟩
set_option maxHeartbeats 8000000 in
set_option maxRecDepth 100000 in
theorem rhull_2 (a b c d e f a' b' c' d' e' f' : Int) (k1 : bvB a b c d e f = true) (k2 : bvB a' b' c' d' e' f' = false) (w : World) :
    Calls Try.prog 64 #[.agg #[.int .i64 a, .int .i64 b, .int .i64 c, .int .i64 d, .int .i64 e, .int .i64 f], .agg #[.int .i64 a', .int .i64 b', .int .i64 c', .int .i64 d', .int .i64 e', .int .i64 f']] w fun r w' => r = .returned (.agg #[.int .i64 0, .int .i64 0, .int .i64 0, .int .i64 0, .int .i64 0, .int .i64 0]) ∧ Below w.heap.size w w' := by
  have V1 := Lib.hid fun w => rvalidBox_any a b c d e f w
  rw [k1] at V1
  have V2 := Lib.hid fun w => rvalidBox_any a' b' c' d' e' f' w
  rw [k2] at V2
  clear k1 k2
  have p1 := Lib.hid (blk_alloc (blk_alloc (blk_new w (.cells #[.int .i64 a, .int .i64 b, .int .i64 c, .int .i64 d, .int .i64 e, .int .i64 f] 28)) (.cells #[.int .i64 a', .int .i64 b', .int .i64 c', .int .i64 d', .int .i64 e', .int .i64 f'] 28)) (.cells #[.int .i64 0, .int .i64 0, .int .i64 0, .int .i64 0, .int .i64 0, .int .i64 0] 28))
  have p2 := Lib.hid (blk_alloc (blk_new1 w (.cells #[.int .i64 a, .int .i64 b, .int .i64 c, .int .i64 d, .int .i64 e, .int .i64 f] 28) (.cells #[.int .i64 a', .int .i64 b', .int .i64 c', .int .i64 d', .int .i64 e', .int .i64 f'] 28)) (.cells #[.int .i64 0, .int .i64 0, .int .i64 0, .int .i64 0, .int .i64 0, .int .i64 0] 28))
  have p3 := Lib.hid (blk_new2 w (.cells #[.int .i64 a, .int .i64 b, .int .i64 c, .int .i64 d, .int .i64 e, .int .i64 f] 28) (.cells #[.int .i64 a', .int .i64 b', .int .i64 c', .int .i64 d', .int .i64 e', .int .i64 f'] 28) (.cells #[.int .i64 0, .int .i64 0, .int .i64 0, .int .i64 0, .int .i64 0, .int .i64 0] 28))
  have hA := Lib.hid (Buf.then_ (Buf.then_ (new_block (w := w) (.cells #[.int .i64 a, .int .i64 b, .int .i64 c, .int .i64 d, .int .i64 e, .int .i64 f] 28)) (new_block (.cells #[.int .i64 a', .int .i64 b', .int .i64 c', .int .i64 d', .int .i64 e', .int .i64 f'] 28))) (new_block (.cells #[.int .i64 0, .int .i64 0, .int .i64 0, .int .i64 0, .int .i64 0, .int .i64 0] 28)))
  go_enter Try.func64, Try.ntmps64
  go_wp2_with fail
  with_reducible refine (V1.out _).mono ?_
  rintro r w1 ⟨rfl, hb⟩
  replace p2 := Lib.hid (blk_b hb p2.out)
  replace p3 := Lib.hid (blk_b hb p3.out)
  replace hA := Lib.hid (Buf.then_ hA.out hb)
  clear hb
  obtain ⟨q1, q2, q3, q4, q5, q6⟩ := cells6 p2.out
  go_wp2_with fail
  with_reducible refine (V2.out _).mono ?_
  rintro r w2 ⟨rfl, hb⟩
  replace p3 := Lib.hid (blk_b hb p3.out)
  replace hA := Lib.hid (Buf.then_ hA.out hb)
  clear hb
  clear q1 q2 q3 q4 q5 q6
  obtain ⟨e1, e2, e3, e4, e5, e6, e7, e8, e9, e10, e11, e12⟩ := cells6f p3.out
  go_wp2_with fail
  exact bodyPost_ret (results_cell_row rfl _ _ (w.heap.size + 1 + 1) _ _ _ _ rfl (st6 p3.out (.int .i64 0) (.int .i64 0) (.int .i64 0) (.int .i64 0) (.int .i64 0) (.int .i64 0)) rfl (by rfl) rfl) rfl ⟨rfl, st6_below hA.out (by omega) (.int .i64 0) (.int .i64 0) (.int .i64 0) (.int .i64 0) (.int .i64 0) (.int .i64 0)⟩
set_option maxHeartbeats 8000000 in
set_option maxRecDepth 100000 in
theorem rhull_3 (a b c d e f a' b' c' d' e' f' : Int) (k1 : bvB a b c d e f = true) (k2 : bvB a' b' c' d' e' f' = true) (w : World) :
    Calls Try.prog 64 #[.agg #[.int .i64 a, .int .i64 b, .int .i64 c, .int .i64 d, .int .i64 e, .int .i64 f], .agg #[.int .i64 a', .int .i64 b', .int .i64 c', .int .i64 d', .int .i64 e', .int .i64 f']] w fun r w' => r = .returned (.agg #[.int .i64 (min a a'), .int .i64 (min b b'), .int .i64 (min c c'), .int .i64 (max d d'), .int .i64 (max e e'), .int .i64 (max f f')]) ∧ Below w.heap.size w w' := by
  have V1 := Lib.hid fun w => rvalidBox_any a b c d e f w
  rw [k1] at V1
  have V2 := Lib.hid fun w => rvalidBox_any a' b' c' d' e' f' w
  rw [k2] at V2
  clear k1 k2
  have p1 := Lib.hid (blk_alloc (blk_alloc (blk_new w (.cells #[.int .i64 a, .int .i64 b, .int .i64 c, .int .i64 d, .int .i64 e, .int .i64 f] 28)) (.cells #[.int .i64 a', .int .i64 b', .int .i64 c', .int .i64 d', .int .i64 e', .int .i64 f'] 28)) (.cells #[.int .i64 0, .int .i64 0, .int .i64 0, .int .i64 0, .int .i64 0, .int .i64 0] 28))
  have p2 := Lib.hid (blk_alloc (blk_new1 w (.cells #[.int .i64 a, .int .i64 b, .int .i64 c, .int .i64 d, .int .i64 e, .int .i64 f] 28) (.cells #[.int .i64 a', .int .i64 b', .int .i64 c', .int .i64 d', .int .i64 e', .int .i64 f'] 28)) (.cells #[.int .i64 0, .int .i64 0, .int .i64 0, .int .i64 0, .int .i64 0, .int .i64 0] 28))
  have p3 := Lib.hid (blk_new2 w (.cells #[.int .i64 a, .int .i64 b, .int .i64 c, .int .i64 d, .int .i64 e, .int .i64 f] 28) (.cells #[.int .i64 a', .int .i64 b', .int .i64 c', .int .i64 d', .int .i64 e', .int .i64 f'] 28) (.cells #[.int .i64 0, .int .i64 0, .int .i64 0, .int .i64 0, .int .i64 0, .int .i64 0] 28))
  have hA := Lib.hid (Buf.then_ (Buf.then_ (new_block (w := w) (.cells #[.int .i64 a, .int .i64 b, .int .i64 c, .int .i64 d, .int .i64 e, .int .i64 f] 28)) (new_block (.cells #[.int .i64 a', .int .i64 b', .int .i64 c', .int .i64 d', .int .i64 e', .int .i64 f'] 28))) (new_block (.cells #[.int .i64 0, .int .i64 0, .int .i64 0, .int .i64 0, .int .i64 0, .int .i64 0] 28)))
  go_enter Try.func64, Try.ntmps64
  go_wp2_with fail
  with_reducible refine (V1.out _).mono ?_
  rintro r w1 ⟨rfl, hb⟩
  replace p1 := Lib.hid (blk_b hb p1.out)
  replace p2 := Lib.hid (blk_b hb p2.out)
  replace p3 := Lib.hid (blk_b hb p3.out)
  replace hA := Lib.hid (Buf.then_ hA.out hb)
  clear hb
  obtain ⟨q1, q2, q3, q4, q5, q6⟩ := cells6 p2.out
  go_wp2_with fail
  with_reducible refine (V2.out _).mono ?_
  rintro r w2 ⟨rfl, hb⟩
  replace p1 := Lib.hid (blk_b hb p1.out)
  replace p2 := Lib.hid (blk_b hb p2.out)
  replace p3 := Lib.hid (blk_b hb p3.out)
  replace hA := Lib.hid (Buf.then_ hA.out hb)
  clear hb
  clear q1 q2 q3 q4 q5 q6
  obtain ⟨u1, u2, u3, u4, u5, u6⟩ := cells6 p1.out
  obtain ⟨q1, q2, q3, q4, q5, q6⟩ := cells6 p2.out
  obtain ⟨e1, e2, e3, e4, e5, e6, e7, e8, e9, e10, e11, e12⟩ := cells6f p3.out
  go_wp2_with fail
  exact bodyPost_ret (results_cell_row rfl _ _ (w.heap.size + 1 + 1) _ _ _ _ rfl (st6 p3.out (.int .i64 (min a a')) (.int .i64 (min b b')) (.int .i64 (min c c')) (.int .i64 (max d d')) (.int .i64 (max e e')) (.int .i64 (max f f'))) rfl (by rfl) rfl) rfl ⟨rfl, st6_below hA.out (by omega) (.int .i64 (min a a')) (.int .i64 (min b b')) (.int .i64 (min c c')) (.int .i64 (max d d')) (.int .i64 (max e e')) (.int .i64 (max f f'))⟩
set_option maxHeartbeats 8000000 in
set_option maxRecDepth 100000 in
theorem rsplit_lt (a b c d e f : Int) (n : Int) (hn : n < 2) (P : Hid (∀ w, Calls Try.prog 58 #[.agg #[.int .i64 a, .int .i64 b, .int .i64 c, .int .i64 d, .int .i64 e, .int .i64 f]] w fun r w' => r = .returned (.int .i64 n) ∧ Below w.heap.size w w')) (w : World) :
    Calls Try.prog 55 #[.agg #[.int .i64 a, .int .i64 b, .int .i64 c, .int .i64 d, .int .i64 e, .int .i64 f]] w fun r w' => r = .returned (.tuple #[.agg #[.int .i64 0, .int .i64 0, .int .i64 0, .int .i64 0, .int .i64 0, .int .i64 0], .agg #[.int .i64 0, .int .i64 0, .int .i64 0, .int .i64 0, .int .i64 0, .int .i64 0], .bool false]) ∧ Below w.heap.size w w' := by
  have p1 := Lib.hid (blk_alloc (blk_alloc (blk_new w (.cells #[.int .i64 a, .int .i64 b, .int .i64 c, .int .i64 d, .int .i64 e, .int .i64 f] 28)) (.cells #[.int .i64 0, .int .i64 0, .int .i64 0, .int .i64 0, .int .i64 0, .int .i64 0] 28)) (.cells #[.int .i64 0, .int .i64 0, .int .i64 0, .int .i64 0, .int .i64 0, .int .i64 0] 28))
  have p2 := Lib.hid (blk_alloc (blk_new1 w (.cells #[.int .i64 a, .int .i64 b, .int .i64 c, .int .i64 d, .int .i64 e, .int .i64 f] 28) (.cells #[.int .i64 0, .int .i64 0, .int .i64 0, .int .i64 0, .int .i64 0, .int .i64 0] 28)) (.cells #[.int .i64 0, .int .i64 0, .int .i64 0, .int .i64 0, .int .i64 0, .int .i64 0] 28))
  have p3 := Lib.hid (blk_new2 w (.cells #[.int .i64 a, .int .i64 b, .int .i64 c, .int .i64 d, .int .i64 e, .int .i64 f] 28) (.cells #[.int .i64 0, .int .i64 0, .int .i64 0, .int .i64 0, .int .i64 0, .int .i64 0] 28) (.cells #[.int .i64 0, .int .i64 0, .int .i64 0, .int .i64 0, .int .i64 0, .int .i64 0] 28))
  have hA := Lib.hid (Buf.then_ (Buf.then_ (new_block (w := w) (.cells #[.int .i64 a, .int .i64 b, .int .i64 c, .int .i64 d, .int .i64 e, .int .i64 f] 28)) (new_block (.cells #[.int .i64 0, .int .i64 0, .int .i64 0, .int .i64 0, .int .i64 0, .int .i64 0] 28))) (new_block (.cells #[.int .i64 0, .int .i64 0, .int .i64 0, .int .i64 0, .int .i64 0, .int .i64 0] 28)))
  go_enter Try.func55, Try.ntmps55
  go_wp2_with fail
  with_reducible refine (P.out _).mono ?_
  rintro r w1 ⟨rfl, hb⟩
  replace p2 := Lib.hid (blk_b hb p2.out)
  replace p3 := Lib.hid (blk_b hb p3.out)
  replace hA := Lib.hid (Buf.then_ hA.out hb)
  clear hb
  obtain ⟨e1, e2, e3, e4, e5, e6, e7, e8, e9, e10, e11, e12⟩ := cells6f p2.out
  obtain ⟨h1, h2, h3, h4, h5, h6, h7, h8, h9, h10, h11, h12⟩ := cells6f p3.out
  have y1 := Lib.hid (st6 ((st6_other w1 (k := w.heap.size + 1 + 1) (g := w.heap.size + 1) (by omega) (.int .i64 0) (.int .i64 0) (.int .i64 0) (.int .i64 0) (.int .i64 0) (.int .i64 0)).trans p3.out) (.int .i64 0) (.int .i64 0) (.int .i64 0) (.int .i64 0) (.int .i64 0) (.int .i64 0))
  have y2 := Lib.hid ((st6_other _ (k := w.heap.size + 1) (g := w.heap.size + 1 + 1) (by omega) (.int .i64 0) (.int .i64 0) (.int .i64 0) (.int .i64 0) (.int .i64 0) (.int .i64 0)).trans (st6 p2.out (.int .i64 0) (.int .i64 0) (.int .i64 0) (.int .i64 0) (.int .i64 0) (.int .i64 0)))
  have y3 := Lib.hid (st6_below (st6_below hA.out (g := w.heap.size + 1) (by omega) (.int .i64 0) (.int .i64 0) (.int .i64 0) (.int .i64 0) (.int .i64 0) (.int .i64 0)) (g := w.heap.size + 1 + 1) (by omega) (.int .i64 0) (.int .i64 0) (.int .i64 0) (.int .i64 0) (.int .i64 0) (.int .i64 0))
  go_wp2
  exact bodyPost_ret (results_two_rows_tmp rfl _ _ (w.heap.size + 1) (w.heap.size + 1 + 1) _ _ _ _ _ _ _ _ rfl y2.out rfl (by rfl) rfl rfl y1.out rfl (by rfl) rfl) rfl ⟨rfl, y3.out⟩
end Geo
end Go.Proofs.Ytmmikihkfpkapaa
