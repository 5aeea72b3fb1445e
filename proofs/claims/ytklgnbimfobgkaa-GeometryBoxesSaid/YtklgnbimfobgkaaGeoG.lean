/- The examples of the chapter on geometry. -/
import Derived.Test.YtklgnbimfobgkaaGeoF
import Derived.Test.YtklgnbimfobgkaaRoot
namespace Go.Proofs.Ytklgnbimfobgkaa
open Go.RowKit
namespace Geo
theorem sample_any (w : World) : Calls Try.prog 54 #[] w fun e w' => e = .returned (.agg #[.int .i64 0, .int .i64 0, .int .i64 0, .int .i64 9, .int .i64 4, .int .i64 4]) ∧ Below w.heap.size w w' := by
  go_enter Try.func54, Try.ntmps54
  go_wp2
  exact bodyPost_ret (results_cell_row rfl _ _ w.heap.size _ _ _ _ rfl (blk_new _ _) rfl (by rfl) rfl) rfl ⟨rfl, new_block _⟩
theorem rt10 : Root.rt 10 32 = 3 := by decide +kernel
theorem ce10 : Root.ce 10 = 4 := by decide +kernel
set_option maxHeartbeats 2000000 in
set_option maxRecDepth 100000 in
theorem awake_any (w : World) : Calls Try.prog 30 #[] w fun e w' => e = .returned (.bool true) ∧ Below w.heap.size w w' := by
  have F : Hid (∀ w, Calls Try.prog 32 #[.int .i64 10] w fun e w' => e = .returned (.int .i64 3) ∧ w' = w) := Lib.hid fun w => by
    have := Root.floor_any 10 w (by decide) (by decide); rwa [rt10] at this
  have C : Hid (∀ w, Calls Try.prog 34 #[.int .i64 10] w fun e w' => e = .returned (.int .i64 4) ∧ w' = w) := Lib.hid fun w => by
    have := Root.ceil_any 10 w (by decide) (by decide); rwa [ce10] at this
  have S := Lib.hid split_ex
  have N := Lib.hid near_ex
  have FA := Lib.hid far_ex
  have CE := Lib.hid center_ex
  have PO := Lib.hid points_ex
  go_enter Try.func30, Try.ntmps30
  go_wp2_with fail
  refine (sample_any _).mono ?_
  rintro r w1 ⟨rfl, hb⟩
  have g1 := Lib.hid (blk_alloc (blk_new w1 (.cells #[.int .i64 0, .int .i64 0, .int .i64 0, .int .i64 9, .int .i64 4, .int .i64 4] 25)) (.cells #[.int .i64 12, .int .i64 2, .int .i64 0] 23))
  have g2 := Lib.hid (blk_new1 w1 (.cells #[.int .i64 0, .int .i64 0, .int .i64 0, .int .i64 9, .int .i64 4, .int .i64 4] 25) (.cells #[.int .i64 12, .int .i64 2, .int .i64 0] 23))
  have hW : Hid (Below w.heap.size w ((w1.alloc (.cells #[.int .i64 0, .int .i64 0, .int .i64 0, .int .i64 9, .int .i64 4, .int .i64 4] 25)).alloc (.cells #[.int .i64 12, .int .i64 2, .int .i64 0] 23))) := Lib.hid (Buf.then_ (Buf.then_ hb (new_block _)) (new_block _))
  clear hb
  go_wp2_with fail
  with_reducible refine (S.out _).mono ?_
  rintro r w2 ⟨rfl, hb⟩
  replace g1 := Lib.hid (blk_alloc (blk_alloc (blk_b hb g1.out) (.cells #[.int .i64 0, .int .i64 0, .int .i64 0, .int .i64 4, .int .i64 4, .int .i64 4] 25)) (.cells #[.int .i64 5, .int .i64 0, .int .i64 0, .int .i64 9, .int .i64 4, .int .i64 4] 25))
  replace g2 := Lib.hid (blk_alloc (blk_alloc (blk_b hb g2.out) (.cells #[.int .i64 0, .int .i64 0, .int .i64 0, .int .i64 4, .int .i64 4, .int .i64 4] 25)) (.cells #[.int .i64 5, .int .i64 0, .int .i64 0, .int .i64 9, .int .i64 4, .int .i64 4] 25))
  have g3 := Lib.hid (blk_alloc (blk_new w2 (.cells #[.int .i64 0, .int .i64 0, .int .i64 0, .int .i64 4, .int .i64 4, .int .i64 4] 25)) (.cells #[.int .i64 5, .int .i64 0, .int .i64 0, .int .i64 9, .int .i64 4, .int .i64 4] 25))
  have g4 := Lib.hid (blk_new1 w2 (.cells #[.int .i64 0, .int .i64 0, .int .i64 0, .int .i64 4, .int .i64 4, .int .i64 4] 25) (.cells #[.int .i64 5, .int .i64 0, .int .i64 0, .int .i64 9, .int .i64 4, .int .i64 4] 25))
  replace hW : Hid (Below w.heap.size w ((w2.alloc (.cells #[.int .i64 0, .int .i64 0, .int .i64 0, .int .i64 4, .int .i64 4, .int .i64 4] 25)).alloc (.cells #[.int .i64 5, .int .i64 0, .int .i64 0, .int .i64 9, .int .i64 4, .int .i64 4] 25))) := Lib.hid (Buf.then_ (Buf.then_ (Buf.then_ hW.out hb) (new_block _)) (new_block _))
  clear hb
  obtain ⟨a1, a2, a3, a4, a5, a6⟩ := cells6 g1.out
  obtain ⟨b1, b2, b3, _, _, _⟩ := cells3 g2.out
  obtain ⟨x1, x2, x3, x4, x5, x6⟩ := cells6 g3.out
  obtain ⟨y1, y2, y3, y4, y5, y6⟩ := cells6 g4.out
  go_wp2_with (first
    | (go_at_call 32; with_reducible refine (F.out _).mono ?_; rintro r w7 ⟨rfl, rfl⟩)
    | (go_at_call 34; with_reducible refine (C.out _).mono ?_; rintro r w7 ⟨rfl, rfl⟩))
  with_reducible refine (N.out _).mono ?_
  rintro r w8 ⟨rfl, hb⟩
  replace g1 := Lib.hid (blk_b hb g1.out)
  replace g2 := Lib.hid (blk_b hb g2.out)
  replace g3 := Lib.hid (blk_b hb g3.out)
  replace g4 := Lib.hid (blk_b hb g4.out)
  replace hW := Lib.hid (Buf.then_ hW.out hb)
  clear hb a1 a2 a3 a4 a5 a6 b1 b2 b3 x1 x2 x3 x4 x5 x6 y1 y2 y3 y4 y5 y6
  obtain ⟨a1, a2, a3, a4, a5, a6⟩ := cells6 g1.out
  obtain ⟨b1, b2, b3, _, _, _⟩ := cells3 g2.out
  obtain ⟨x1, x2, x3, x4, x5, x6⟩ := cells6 g3.out
  obtain ⟨y1, y2, y3, y4, y5, y6⟩ := cells6 g4.out
  go_wp2_with fail
  with_reducible refine (FA.out _).mono ?_
  rintro r w9 ⟨rfl, hb⟩
  replace g1 := Lib.hid (blk_b hb g1.out)
  replace g2 := Lib.hid (blk_b hb g2.out)
  replace g3 := Lib.hid (blk_b hb g3.out)
  replace g4 := Lib.hid (blk_b hb g4.out)
  replace hW := Lib.hid (Buf.then_ hW.out hb)
  clear hb a1 a2 a3 a4 a5 a6 b1 b2 b3 x1 x2 x3 x4 x5 x6 y1 y2 y3 y4 y5 y6
  obtain ⟨a1, a2, a3, a4, a5, a6⟩ := cells6 g1.out
  obtain ⟨b1, b2, b3, _, _, _⟩ := cells3 g2.out
  obtain ⟨x1, x2, x3, x4, x5, x6⟩ := cells6 g3.out
  obtain ⟨y1, y2, y3, y4, y5, y6⟩ := cells6 g4.out
  go_wp2_with fail
  with_reducible refine (CE.out _).mono ?_
  rintro r w10 ⟨rfl, hb⟩
  replace g1 := Lib.hid (blk_b hb g1.out)
  replace g2 := Lib.hid (blk_b hb g2.out)
  replace g3 := Lib.hid (blk_b hb g3.out)
  replace g4 := Lib.hid (blk_b hb g4.out)
  replace hW := Lib.hid (Buf.then_ hW.out hb)
  clear hb a1 a2 a3 a4 a5 a6 b1 b2 b3 x1 x2 x3 x4 x5 x6 y1 y2 y3 y4 y5 y6
  obtain ⟨a1, a2, a3, a4, a5, a6⟩ := cells6 g1.out
  obtain ⟨b1, b2, b3, _, _, _⟩ := cells3 g2.out
  obtain ⟨x1, x2, x3, x4, x5, x6⟩ := cells6 g3.out
  obtain ⟨y1, y2, y3, y4, y5, y6⟩ := cells6 g4.out
  go_wp2_with fail
  with_reducible refine (PO.out _).mono ?_
  rintro r w11 ⟨rfl, hb⟩
  replace g1 := Lib.hid (blk_b hb g1.out)
  replace g2 := Lib.hid (blk_b hb g2.out)
  replace g3 := Lib.hid (blk_b hb g3.out)
  replace g4 := Lib.hid (blk_b hb g4.out)
  replace hW := Lib.hid (Buf.then_ hW.out hb)
  clear hb a1 a2 a3 a4 a5 a6 b1 b2 b3 x1 x2 x3 x4 x5 x6 y1 y2 y3 y4 y5 y6
  obtain ⟨a1, a2, a3, a4, a5, a6⟩ := cells6 g1.out
  obtain ⟨b1, b2, b3, _, _, _⟩ := cells3 g2.out
  obtain ⟨x1, x2, x3, x4, x5, x6⟩ := cells6 g3.out
  obtain ⟨y1, y2, y3, y4, y5, y6⟩ := cells6 g4.out
  go_wp2
  go_ret
  exact ⟨rfl, hW.out⟩
end Geo
end Go.Proofs.Ytklgnbimfobgkaa
