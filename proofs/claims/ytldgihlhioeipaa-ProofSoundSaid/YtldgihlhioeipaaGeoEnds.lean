/- Contracts of package geometry: ends. -/
import Derived.Test.YtldgihlhioeipaaGeoAI
namespace Go.Proofs.Ytldgihlhioeipaa
open Go.RowKit
namespace Geo
set_option maxHeartbeats 2000000 in
set_option maxRecDepth 100000 in
theorem ends_any (a b c d e f : Int) (w : World) :
    Calls Try.prog 53 #[.agg #[.int .i64 a, .int .i64 b, .int .i64 c, .int .i64 d, .int .i64 e, .int .i64 f]] w fun r w' => r = .returned (.tuple #[.agg #[.int .i64 a, .int .i64 b, .int .i64 c], .agg #[.int .i64 d, .int .i64 e, .int .i64 f]]) ∧ Below w.heap.size w w' := by
  go_enter Try.func53, Try.ntmps53
  go_wp2
  have g1 := blk_alloc (blk_alloc (blk_new w (.cells #[.int .i64 a, .int .i64 b, .int .i64 c, .int .i64 d, .int .i64 e, .int .i64 f] 26)) (.cells #[.int .i64 0, .int .i64 0, .int .i64 0] 95)) (.cells #[.int .i64 0, .int .i64 0, .int .i64 0] 95)
  have g2 := blk_alloc (blk_new1 w (.cells #[.int .i64 a, .int .i64 b, .int .i64 c, .int .i64 d, .int .i64 e, .int .i64 f] 26) (.cells #[.int .i64 0, .int .i64 0, .int .i64 0] 95)) (.cells #[.int .i64 0, .int .i64 0, .int .i64 0] 95)
  have g3 := blk_new2 w (.cells #[.int .i64 a, .int .i64 b, .int .i64 c, .int .i64 d, .int .i64 e, .int .i64 f] 26) (.cells #[.int .i64 0, .int .i64 0, .int .i64 0] 95) (.cells #[.int .i64 0, .int .i64 0, .int .i64 0] 95)
  have hW : Below w.heap.size w (((w.alloc (.cells #[.int .i64 a, .int .i64 b, .int .i64 c, .int .i64 d, .int .i64 e, .int .i64 f] 26)).alloc (.cells #[.int .i64 0, .int .i64 0, .int .i64 0] 95)).alloc (.cells #[.int .i64 0, .int .i64 0, .int .i64 0] 95)) := (((Below.refl _ _).alloc (Nat.le_refl _) _).alloc (by simp) _).alloc (by simp; omega) _
  generalize ((w.alloc (.cells #[.int .i64 a, .int .i64 b, .int .i64 c, .int .i64 d, .int .i64 e, .int .i64 f] 26)).alloc (.cells #[.int .i64 0, .int .i64 0, .int .i64 0] 95)).alloc (.cells #[.int .i64 0, .int .i64 0, .int .i64 0] 95) = w0 at *
  obtain ⟨a1, a2, a3, a4, a5, a6⟩ := cells6 g1
  replace g1 := Lib.hid g1
  replace g2 := Lib.hid g2
  replace g3 := Lib.hid g3
  replace hW := Lib.hid hW
  go_region_with (go_at_call 72; refine (coords_any _ _ _ _).mono ?_; rintro r w1 ⟨rfl, hb⟩; replace g1 := Lib.hid (blk_b hb g1.out); replace g2 := Lib.hid (blk_b hb g2.out); replace g3 := Lib.hid (blk_b hb g3.out); (first | replace hW := Lib.hid (Buf.then_ hW.out hb) | replace hW := Lib.hid (Buf.then_ hW.out.drew hb)); obtain ⟨a1, a2, a3, a4, a5, a6⟩ := cells6 g1.out; obtain ⟨b1, b2, b3, b4, b5, b6⟩ := cells3 g2.out; obtain ⟨c1, c2, c3, c4, c5, c6⟩ := cells3 g3.out; clear hb)
  all_goals
    go_wp2
    refine bodyPost_ret (results_two_rows rfl _ _ (w.heap.size + 1) (w.heap.size + 1 + 1) _ _ _ _ _ _ _ _ rfl ((st3_other _ (by omega) _ _ _).trans (st3 g2.out _ _ _)) rfl (by rfl) rfl rfl (st3 ((st3_other _ (by omega) _ _ _).trans g3.out) _ _ _) rfl (by rfl) rfl) rfl ⟨rfl, st3_below (st3_below hW.out (by omega) _ _ _) (by omega) _ _ _⟩
end Geo
end Go.Proofs.Ytldgihlhioeipaa
