/- Layer 24: the program and the reference say the same. -/
import Derived.Test.YtklgnbimfobgkaaGbF
import Derived.Test.YtklgnbimfobgkaaPlace
set_option linter.unusedVariables false
set_option linter.unusedSimpArgs false
namespace Go.Proofs.Ytklgnbimfobgkaa
open Go.RowKit
namespace Geo
theorem validBox_same (a b c d e f : Int) : ∃ v : Bool, (∀ w, Calls Try.prog 13 #[.agg #[.int .i64 a, .int .i64 b, .int .i64 c, .int .i64 d, .int .i64 e, .int .i64 f]] w fun r w' => r = .returned (.bool v) ∧ Below w.heap.size w w') ∧ (∀ w, Calls Try.prog 14 #[.agg #[.int .i64 a, .int .i64 b, .int .i64 c, .int .i64 d, .int .i64 e, .int .i64 f]] w fun r w' => r = .returned (.bool v) ∧ Below w.heap.size w w') := by
  exact ⟨_, fun w => validBox_any a b c d e f w, fun w => rvalidBox_any a b c d e f w⟩
theorem points_same (a b c d e f : Int) : ∃ v : Int, (∀ w, Calls Try.prog 15 #[.agg #[.int .i64 a, .int .i64 b, .int .i64 c, .int .i64 d, .int .i64 e, .int .i64 f]] w fun r w' => r = .returned (.int .i64 v) ∧ Below w.heap.size w w') ∧ (∀ w, Calls Try.prog 16 #[.agg #[.int .i64 a, .int .i64 b, .int .i64 c, .int .i64 d, .int .i64 e, .int .i64 f]] w fun r w' => r = .returned (.int .i64 v) ∧ Below w.heap.size w w') := by
  cases h : bvB a b c d e f with
  | false => exact ⟨_, fun w => points_no a b c d e f h w, fun w => rpoints_1 a b c d e f h w⟩
  | true => exact ⟨_, fun w => points_yes a b c d e f (bvB_yes h) w, fun w => rpoints_2 a b c d e f h w⟩
theorem center_same (a b c d e f : Int) : ∃ x y z : Int, (∀ w, Calls Try.prog 17 #[.agg #[.int .i64 a, .int .i64 b, .int .i64 c, .int .i64 d, .int .i64 e, .int .i64 f]] w fun r w' => r = .returned (.agg #[.int .i64 x, .int .i64 y, .int .i64 z]) ∧ Below w.heap.size w w') ∧ (∀ w, Calls Try.prog 18 #[.agg #[.int .i64 a, .int .i64 b, .int .i64 c, .int .i64 d, .int .i64 e, .int .i64 f]] w fun r w' => r = .returned (.agg #[.int .i64 x, .int .i64 y, .int .i64 z]) ∧ Below w.heap.size w w') := by
  cases h : bvB a b c d e f with
  | false => exact ⟨_, _, _, fun w => center_no a b c d e f h w, fun w => rcenter_1 a b c d e f h w⟩
  | true => exact ⟨_, _, _, fun w => center_yes a b c d e f (bvB_yes h) w, fun w => rcenter_2 a b c d e f h w⟩
theorem near_same (a b c d e f x y z : Int) : ∃ v : Int, (∀ w, Calls Try.prog 20 #[.agg #[.int .i64 a, .int .i64 b, .int .i64 c, .int .i64 d, .int .i64 e, .int .i64 f], .agg #[.int .i64 x, .int .i64 y, .int .i64 z]] w fun r w' => r = .returned (.int .i64 v) ∧ Below w.heap.size w w') ∧ (∀ w, Calls Try.prog 21 #[.agg #[.int .i64 a, .int .i64 b, .int .i64 c, .int .i64 d, .int .i64 e, .int .i64 f], .agg #[.int .i64 x, .int .i64 y, .int .i64 z]] w fun r w' => r = .returned (.int .i64 v) ∧ Below w.heap.size w w') := by
  cases h : bvB a b c d e f with
  | false => exact ⟨_, fun w => near_no1 a b c d e f x y z h w, fun w => rnear_1 a b c d e f x y z h w⟩
  | true =>
    cases k : pvB x y z with
    | false => exact ⟨_, fun w => near_no2 a b c d e f x y z h k w, fun w => rnear_2 a b c d e f x y z h k w⟩
    | true => exact ⟨_, fun w => near_yes a b c d e f x y z (bvB_yes h) (pvB_yes k) w, fun w => rnear_3 a b c d e f x y z h k w⟩
theorem far_same (a b c d e f x y z : Int) : ∃ v : Int, (∀ w, Calls Try.prog 22 #[.agg #[.int .i64 a, .int .i64 b, .int .i64 c, .int .i64 d, .int .i64 e, .int .i64 f], .agg #[.int .i64 x, .int .i64 y, .int .i64 z]] w fun r w' => r = .returned (.int .i64 v) ∧ Below w.heap.size w w') ∧ (∀ w, Calls Try.prog 23 #[.agg #[.int .i64 a, .int .i64 b, .int .i64 c, .int .i64 d, .int .i64 e, .int .i64 f], .agg #[.int .i64 x, .int .i64 y, .int .i64 z]] w fun r w' => r = .returned (.int .i64 v) ∧ Below w.heap.size w w') := by
  cases h : bvB a b c d e f with
  | false => exact ⟨_, fun w => far_no1 a b c d e f x y z h w, fun w => rfar_1 a b c d e f x y z h w⟩
  | true =>
    cases k : pvB x y z with
    | false => exact ⟨_, fun w => far_no2 a b c d e f x y z h k w, fun w => rfar_2 a b c d e f x y z h k w⟩
    | true => exact ⟨_, fun w => far_yes a b c d e f x y z (bvB_yes h) (pvB_yes k) w, fun w => rfar_3 a b c d e f x y z h k w⟩
theorem contains_same (a b c d e f x y z : Int) : ∃ v : Bool, (∀ w, Calls Try.prog 24 #[.agg #[.int .i64 a, .int .i64 b, .int .i64 c, .int .i64 d, .int .i64 e, .int .i64 f], .agg #[.int .i64 x, .int .i64 y, .int .i64 z]] w fun r w' => r = .returned (.bool v) ∧ Below w.heap.size w w') ∧ (∀ w, Calls Try.prog 25 #[.agg #[.int .i64 a, .int .i64 b, .int .i64 c, .int .i64 d, .int .i64 e, .int .i64 f], .agg #[.int .i64 x, .int .i64 y, .int .i64 z]] w fun r w' => r = .returned (.bool v) ∧ Below w.heap.size w w') := by
  exact ⟨_, fun w => contains_all a b c d e f x y z w, fun w => rcontains_any a b c d e f x y z w⟩
theorem within_same (a b c d e f a' b' c' d' e' f' : Int) : ∃ v : Bool, (∀ w, Calls Try.prog 26 #[.agg #[.int .i64 a, .int .i64 b, .int .i64 c, .int .i64 d, .int .i64 e, .int .i64 f], .agg #[.int .i64 a', .int .i64 b', .int .i64 c', .int .i64 d', .int .i64 e', .int .i64 f']] w fun r w' => r = .returned (.bool v) ∧ Below w.heap.size w w') ∧ (∀ w, Calls Try.prog 27 #[.agg #[.int .i64 a, .int .i64 b, .int .i64 c, .int .i64 d, .int .i64 e, .int .i64 f], .agg #[.int .i64 a', .int .i64 b', .int .i64 c', .int .i64 d', .int .i64 e', .int .i64 f']] w fun r w' => r = .returned (.bool v) ∧ Below w.heap.size w w') := by
  exact ⟨_, fun w => within_all a b c d e f a' b' c' d' e' f' w, fun w => rwithin_any a b c d e f a' b' c' d' e' f' w⟩
theorem hull_same (a b c d e f a' b' c' d' e' f' : Int) : ∃ p1 p2 p3 p4 p5 p6 : Int, (∀ w, Calls Try.prog 28 #[.agg #[.int .i64 a, .int .i64 b, .int .i64 c, .int .i64 d, .int .i64 e, .int .i64 f], .agg #[.int .i64 a', .int .i64 b', .int .i64 c', .int .i64 d', .int .i64 e', .int .i64 f']] w fun r w' => r = .returned (.agg #[.int .i64 p1, .int .i64 p2, .int .i64 p3, .int .i64 p4, .int .i64 p5, .int .i64 p6]) ∧ Below w.heap.size w w') ∧ (∀ w, Calls Try.prog 29 #[.agg #[.int .i64 a, .int .i64 b, .int .i64 c, .int .i64 d, .int .i64 e, .int .i64 f], .agg #[.int .i64 a', .int .i64 b', .int .i64 c', .int .i64 d', .int .i64 e', .int .i64 f']] w fun r w' => r = .returned (.agg #[.int .i64 p1, .int .i64 p2, .int .i64 p3, .int .i64 p4, .int .i64 p5, .int .i64 p6]) ∧ Below w.heap.size w w') := by
  cases h : bvB a b c d e f with
  | false => exact ⟨_, _, _, _, _, _, fun w => hull_no_1 a b c d e f a' b' c' d' e' f' h w, fun w => rhull_1 a b c d e f a' b' c' d' e' f' h w⟩
  | true =>
    cases k : bvB a' b' c' d' e' f' with
    | false => exact ⟨_, _, _, _, _, _, fun w => hull_no_2 a b c d e f a' b' c' d' e' f' h k w, fun w => rhull_2 a b c d e f a' b' c' d' e' f' h k w⟩
    | true => exact ⟨_, _, _, _, _, _, fun w => hull_yes a b c d e f a' b' c' d' e' f' (bvB_yes h) (bvB_yes k) w, fun w => rhull_3 a b c d e f a' b' c' d' e' f' h k w⟩
theorem split_same (a b c d e f : Int) : ∃ p1 p2 p3 p4 p5 p6 q1 q2 q3 q4 q5 q6 : Int, ∃ ok : Bool, (∀ w, Calls Try.prog 11 #[.agg #[.int .i64 a, .int .i64 b, .int .i64 c, .int .i64 d, .int .i64 e, .int .i64 f]] w fun r w' => r = .returned (.tuple #[.agg #[.int .i64 p1, .int .i64 p2, .int .i64 p3, .int .i64 p4, .int .i64 p5, .int .i64 p6], .agg #[.int .i64 q1, .int .i64 q2, .int .i64 q3, .int .i64 q4, .int .i64 q5, .int .i64 q6], .bool ok]) ∧ Below w.heap.size w w') ∧ (∀ w, Calls Try.prog 12 #[.agg #[.int .i64 a, .int .i64 b, .int .i64 c, .int .i64 d, .int .i64 e, .int .i64 f]] w fun r w' => r = .returned (.tuple #[.agg #[.int .i64 p1, .int .i64 p2, .int .i64 p3, .int .i64 p4, .int .i64 p5, .int .i64 p6], .agg #[.int .i64 q1, .int .i64 q2, .int .i64 q3, .int .i64 q4, .int .i64 q5, .int .i64 q6], .bool ok]) ∧ Below w.heap.size w w') := by
  cases h : bvB a b c d e f with
  | false => exact ⟨_, _, _, _, _, _, _, _, _, _, _, _, _, fun w => split_lt a b c d e f 0 (by decide) (Lib.hid fun w => points_no a b c d e f h w) w, fun w => rsplit_lt a b c d e f 0 (by decide) (Lib.hid fun w => rpoints_1 a b c d e f h w) w⟩
  | true =>
    by_cases h2 : 2 ≤ pts a b c d e f
    · by_cases k1 : e - b ≤ d - a
      · by_cases k2 : f - c ≤ d - a
        · exact ⟨_, _, _, _, _, _, _, _, _, _, _, _, _, fun w => split_A a b c d e f (bvB_yes h) h2 k1 k2 w, fun w => rsplit_A a b c d e f h h2 k1 k2 w⟩
        · exact ⟨_, _, _, _, _, _, _, _, _, _, _, _, _, fun w => split_B a b c d e f (bvB_yes h) h2 k1 (by omega) w, fun w => rsplit_B a b c d e f h h2 k1 (by omega) w⟩
      · by_cases k2 : f - c ≤ e - b
        · exact ⟨_, _, _, _, _, _, _, _, _, _, _, _, _, fun w => split_C a b c d e f (bvB_yes h) h2 (by omega) k2 w, fun w => rsplit_C a b c d e f h h2 (by omega) k2 w⟩
        · exact ⟨_, _, _, _, _, _, _, _, _, _, _, _, _, fun w => split_D a b c d e f (bvB_yes h) h2 (by omega) (by omega) w, fun w => rsplit_D a b c d e f h h2 (by omega) (by omega) w⟩
    · exact ⟨_, _, _, _, _, _, _, _, _, _, _, _, _, fun w => split_lt a b c d e f _ (by omega) (Lib.hid fun w => points_yes a b c d e f (bvB_yes h) w) w, fun w => rsplit_lt a b c d e f _ (by omega) (Lib.hid fun w => rpoints_2 a b c d e f h w) w⟩
end Geo
namespace Src
open Geo
def BoxEnd (e : Ending) : Prop := ∃ a b c d f g : Int, e = .returned (.agg #[.int .i64 a, .int .i64 b, .int .i64 c, .int .i64 d, .int .i64 f, .int .i64 g])
set_option maxHeartbeats 4000000 in
set_option maxRecDepth 100000 in
theorem bent_any {W w : World} {g : Nat} {a : Option Addr} {len cap : Nat} {zs : List Int} (a1 a2 a3 a4 a5 a6 : Int) (h : Di W w g a len cap zs) :
    Calls Try.prog 10 #[.pointer (some ⟨g, 0, none⟩), .agg #[.int .i64 a1, .int .i64 a2, .int .i64 a3, .int .i64 a4, .int .i64 a5, .int .i64 a6]] w fun e w' => BoxEnd e ∧ Left W w w' g a len cap zs := by
  obtain ⟨wb, hwb⟩ : ∃ wz, wz = (w.alloc (.cells #[.int .i64 a1, .int .i64 a2, .int .i64 a3, .int .i64 a4, .int .i64 a5, .int .i64 a6] 25)).alloc (.cells #[.int .i64 0, .int .i64 0, .int .i64 0, .int .i64 0, .int .i64 0, .int .i64 0] 25) := ⟨_, rfl⟩
  have L0 := Lib.hid (show Left W w wb g a len cap zs by rw [hwb]; exact ((Left.refl h).alloc _).alloc _)
  have p1 := Lib.hid (show wb.heap[w.heap.size]? = some (.cells #[.int .i64 a1, .int .i64 a2, .int .i64 a3, .int .i64 a4, .int .i64 a5, .int .i64 a6] 25 (0, 0)) by rw [hwb]; exact blk_alloc (blk_new w _) _)
  have p2 := Lib.hid (show wb.heap[w.heap.size + 1]? = some (.cells #[.int .i64 0, .int .i64 0, .int .i64 0, .int .i64 0, .int .i64 0, .int .i64 0] 25 (0, 0)) by rw [hwb]; exact blk_new1 w _ _)
  have n1 : w.heap.size ≠ g := by have := h.lt; omega
  have n2 : w.heap.size + 1 ≠ g := by have := h.lt; omega
  have h0 := Lib.hid h
  clear h
  go_enter Try.func10, Try.ntmps10
  go_upto_region 1 with fail
  rw [← hwb]
  clear hwb
  go_wp2_with fail
  refine (pick_any wb.heap.size [-1048577, -1048576, 0, -16385, -16384, 1048576, 1048577] 7 7 (L0.out.alloc _).di (ints_alloc wb [-1048577, -1048576, 0, -16385, -16384, 1048576, 1048577] 3) rfl (by omega) (by omega) (by have := L0.out.di.lt; omega) (by simp)).mono ?_
  rintro e w2 ⟨⟨od, rfl, _⟩, hl⟩
  replace p1 := Lib.hid (((Left.refl L0.out.di).alloc _ |>.trans hl).blk p1.out n1)
  replace p2 := Lib.hid (((Left.refl L0.out.di).alloc _ |>.trans hl).blk p2.out n2)
  replace L0 := Lib.hid ((L0.out.alloc _).trans hl)
  clear hl
  go_wp2_with fail
  refine (n_any 6 L0.out.di (by omega) (by omega)).mono ?_
  rintro e w3 ⟨⟨k, rfl, k0, k1⟩, hl⟩
  replace p1 := Lib.hid (hl.blk p1.out n1)
  replace p2 := Lib.hid (hl.blk p2.out n2)
  replace L0 := Lib.hid (L0.out.trans hl)
  clear hl
  obtain ⟨u1, u2, u3, u4, u5, u6, u7, u8, u9, u10, u11, u12⟩ := cells6f p1.out
  obtain ⟨e1, e2, e3, e4, e5, e6, e7, e8, e9, e10, e11, e12⟩ := cells6f p2.out
  rcases (show k = 0 ∨ k = 1 ∨ k = 2 ∨ k = 3 ∨ k = 4 ∨ k = 5 by omega) with rfl | rfl | rfl | rfl | rfl | rfl
  · have p1x := Lib.hid ((heap_setCell_same _ _ 0 _ _ (.int .i64 od) p1.out).trans rfl)
    have p2x := Lib.hid (show (w3.setCell ⟨w.heap.size, 0, none⟩ (.int .i64 od)).heap[w.heap.size + 1]? = _ from (Below.heap_setCell _ _ _ _ (by simp)).trans p2.out)
    obtain ⟨v1, v2, v3, v4, v5, v6⟩ := cells6 p1x.out
    obtain ⟨f1, f2, f3, f4, f5, f6, f7, f8, f9, f10, f11, f12⟩ := cells6f p2x.out
    go_wp2_with fail
    exact bodyPost_ret (results_cell_row rfl _ _ (w.heap.size + 1) _ _ _ _ rfl (st6 p2x.out (.int .i64 od) (.int .i64 a2) (.int .i64 a3) (.int .i64 a4) (.int .i64 a5) (.int .i64 a6)) rfl (by rfl) rfl) rfl ⟨⟨_, _, _, _, _, _, rfl⟩, Left.past h0.out L0.out (st6_below ((Below.refl _ w3).setCell (by simp) _) (by omega) (.int .i64 od) (.int .i64 a2) (.int .i64 a3) (.int .i64 a4) (.int .i64 a5) (.int .i64 a6))⟩
  · have p1x := Lib.hid ((heap_setCell_same _ _ 1 _ _ (.int .i64 od) p1.out).trans rfl)
    have p2x := Lib.hid (show (w3.setCell ⟨w.heap.size, 1, none⟩ (.int .i64 od)).heap[w.heap.size + 1]? = _ from (Below.heap_setCell _ _ _ _ (by simp)).trans p2.out)
    obtain ⟨v1, v2, v3, v4, v5, v6⟩ := cells6 p1x.out
    obtain ⟨f1, f2, f3, f4, f5, f6, f7, f8, f9, f10, f11, f12⟩ := cells6f p2x.out
    go_wp2_with fail
    exact bodyPost_ret (results_cell_row rfl _ _ (w.heap.size + 1) _ _ _ _ rfl (st6 p2x.out (.int .i64 a1) (.int .i64 od) (.int .i64 a3) (.int .i64 a4) (.int .i64 a5) (.int .i64 a6)) rfl (by rfl) rfl) rfl ⟨⟨_, _, _, _, _, _, rfl⟩, Left.past h0.out L0.out (st6_below ((Below.refl _ w3).setCell (by simp) _) (by omega) (.int .i64 a1) (.int .i64 od) (.int .i64 a3) (.int .i64 a4) (.int .i64 a5) (.int .i64 a6))⟩
  · have p1x := Lib.hid ((heap_setCell_same _ _ 2 _ _ (.int .i64 od) p1.out).trans rfl)
    have p2x := Lib.hid (show (w3.setCell ⟨w.heap.size, 2, none⟩ (.int .i64 od)).heap[w.heap.size + 1]? = _ from (Below.heap_setCell _ _ _ _ (by simp)).trans p2.out)
    obtain ⟨v1, v2, v3, v4, v5, v6⟩ := cells6 p1x.out
    obtain ⟨f1, f2, f3, f4, f5, f6, f7, f8, f9, f10, f11, f12⟩ := cells6f p2x.out
    go_wp2_with fail
    exact bodyPost_ret (results_cell_row rfl _ _ (w.heap.size + 1) _ _ _ _ rfl (st6 p2x.out (.int .i64 a1) (.int .i64 a2) (.int .i64 od) (.int .i64 a4) (.int .i64 a5) (.int .i64 a6)) rfl (by rfl) rfl) rfl ⟨⟨_, _, _, _, _, _, rfl⟩, Left.past h0.out L0.out (st6_below ((Below.refl _ w3).setCell (by simp) _) (by omega) (.int .i64 a1) (.int .i64 a2) (.int .i64 od) (.int .i64 a4) (.int .i64 a5) (.int .i64 a6))⟩
  · have p1x := Lib.hid ((heap_setCell_same _ _ 3 _ _ (.int .i64 od) p1.out).trans rfl)
    have p2x := Lib.hid (show (w3.setCell ⟨w.heap.size, 3, none⟩ (.int .i64 od)).heap[w.heap.size + 1]? = _ from (Below.heap_setCell _ _ _ _ (by simp)).trans p2.out)
    obtain ⟨v1, v2, v3, v4, v5, v6⟩ := cells6 p1x.out
    obtain ⟨f1, f2, f3, f4, f5, f6, f7, f8, f9, f10, f11, f12⟩ := cells6f p2x.out
    go_wp2_with fail
    exact bodyPost_ret (results_cell_row rfl _ _ (w.heap.size + 1) _ _ _ _ rfl (st6 p2x.out (.int .i64 a1) (.int .i64 a2) (.int .i64 a3) (.int .i64 od) (.int .i64 a5) (.int .i64 a6)) rfl (by rfl) rfl) rfl ⟨⟨_, _, _, _, _, _, rfl⟩, Left.past h0.out L0.out (st6_below ((Below.refl _ w3).setCell (by simp) _) (by omega) (.int .i64 a1) (.int .i64 a2) (.int .i64 a3) (.int .i64 od) (.int .i64 a5) (.int .i64 a6))⟩
  · have p1x := Lib.hid ((heap_setCell_same _ _ 4 _ _ (.int .i64 od) p1.out).trans rfl)
    have p2x := Lib.hid (show (w3.setCell ⟨w.heap.size, 4, none⟩ (.int .i64 od)).heap[w.heap.size + 1]? = _ from (Below.heap_setCell _ _ _ _ (by simp)).trans p2.out)
    obtain ⟨v1, v2, v3, v4, v5, v6⟩ := cells6 p1x.out
    obtain ⟨f1, f2, f3, f4, f5, f6, f7, f8, f9, f10, f11, f12⟩ := cells6f p2x.out
    go_wp2_with fail
    exact bodyPost_ret (results_cell_row rfl _ _ (w.heap.size + 1) _ _ _ _ rfl (st6 p2x.out (.int .i64 a1) (.int .i64 a2) (.int .i64 a3) (.int .i64 a4) (.int .i64 od) (.int .i64 a6)) rfl (by rfl) rfl) rfl ⟨⟨_, _, _, _, _, _, rfl⟩, Left.past h0.out L0.out (st6_below ((Below.refl _ w3).setCell (by simp) _) (by omega) (.int .i64 a1) (.int .i64 a2) (.int .i64 a3) (.int .i64 a4) (.int .i64 od) (.int .i64 a6))⟩
  · have p1x := Lib.hid ((heap_setCell_same _ _ 5 _ _ (.int .i64 od) p1.out).trans rfl)
    have p2x := Lib.hid (show (w3.setCell ⟨w.heap.size, 5, none⟩ (.int .i64 od)).heap[w.heap.size + 1]? = _ from (Below.heap_setCell _ _ _ _ (by simp)).trans p2.out)
    obtain ⟨v1, v2, v3, v4, v5, v6⟩ := cells6 p1x.out
    obtain ⟨f1, f2, f3, f4, f5, f6, f7, f8, f9, f10, f11, f12⟩ := cells6f p2x.out
    go_wp2_with fail
    exact bodyPost_ret (results_cell_row rfl _ _ (w.heap.size + 1) _ _ _ _ rfl (st6 p2x.out (.int .i64 a1) (.int .i64 a2) (.int .i64 a3) (.int .i64 a4) (.int .i64 a5) (.int .i64 od)) rfl (by rfl) rfl) rfl ⟨⟨_, _, _, _, _, _, rfl⟩, Left.past h0.out L0.out (st6_below ((Below.refl _ w3).setCell (by simp) _) (by omega) (.int .i64 a1) (.int .i64 a2) (.int .i64 a3) (.int .i64 a4) (.int .i64 a5) (.int .i64 od))⟩
end Src
end Go.Proofs.Ytklgnbimfobgkaa
