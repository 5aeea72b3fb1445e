/- The walk of GeometryHull. -/
import Derived.Test.YthnjibbmacejiaaPlaceB
import Derived.Test.YthnjibbmacejiaaGeoG
import Derived.Test.YthnjibbmacejiaaGeoM
namespace Go.Proofs.Ythnjibbmacejiaa
open Go.RowKit
namespace Laws
theorem lift {α : Type} {P : World → α → Prop} {u v : α} (h : u = v) (k : ∀ w, P w u) : ∀ w, P w v := by rw [← h]; exact k
set_option maxHeartbeats 8000000 in
set_option maxRecDepth 100000 in
theorem geometryHull_walk (a0 : Option Addr) (len0 cap0 : Nat) (z0 : List Int) (w : World) (w0 : Buf.IsRow .i64 w a0 len0 cap0 z0) :
    Calls Try.prog 5 #[.slice a0 len0 cap0] w fun e w' => e = .returned (.bool true) ∧ Below w.heap.size w w' := by
  go_enter Try.func5, Try.ntmps5
  go_wp2_with fail
  refine (Src.new_any a0 len0 cap0 z0 w w0).mono ?_
  rintro e wA ⟨rfl, n, hd⟩
  have L0 := Lib.hid (Src.Left.refl hd)
  clear hd w0
  go_wp2_with fail
  refine (Src.box_any _ _ L0.out.di (by omega) (by omega) (by omega) (by omega)).mono ?_
  rintro e w1 ⟨⟨a1, a2, a3, a4, a5, a6, rfl, v1, _, _, _, _, _, _, _, _, _⟩, hl⟩
  replace L0 := Lib.hid (L0.out.trans hl)
  clear hl
  go_wp2_with fail
  refine (Src.box_any _ _ L0.out.di (by omega) (by omega) (by omega) (by omega)).mono ?_
  rintro e w2 ⟨⟨b1, b2, b3, b4, b5, b6, rfl, v2, _, _, _, _, _, _, _, _, _⟩, hl⟩
  replace L0 := Lib.hid (L0.out.trans hl)
  clear hl
  go_wp2_with fail
  refine (Src.box_any _ _ L0.out.di (by omega) (by omega) (by omega) (by omega)).mono ?_
  rintro e w3 ⟨⟨c1, c2, c3, c4, c5, c6, rfl, v3, _, _, _, _, _, _, _, _, _⟩, hl⟩
  replace L0 := Lib.hid (L0.out.trans hl)
  clear hl
  go_wp2_with fail
  refine (Src.place_any _ L0.out.di (by omega) (by omega)).mono ?_
  rintro e w4 ⟨⟨x, y, z, rfl, x0, x1, y0, y1, z1, z2⟩, hl⟩
  replace L0 := Lib.hid (L0.out.trans hl)
  clear hl
  have vp : Geo.PV x y z := ⟨by omega, by omega, by omega, by omega, by omega, by omega⟩
  have hb := Lib.hid L0.out.di.bel
  clear L0 x0 x1 y0 y1 z1 z2
  have g1 := Lib.hid (Geo.blk_alloc (Geo.blk_alloc (Geo.blk_alloc (Geo.blk_newk w4 (.cells #[.int .i64 a1, .int .i64 a2, .int .i64 a3, .int .i64 a4, .int .i64 a5, .int .i64 a6] 28) (k := w4.heap.size) (by simp)) (.cells #[.int .i64 b1, .int .i64 b2, .int .i64 b3, .int .i64 b4, .int .i64 b5, .int .i64 b6] 28)) (.cells #[.int .i64 c1, .int .i64 c2, .int .i64 c3, .int .i64 c4, .int .i64 c5, .int .i64 c6] 28)) (.cells #[.int .i64 x, .int .i64 y, .int .i64 z] 26))
  have g2 := Lib.hid (Geo.blk_alloc (Geo.blk_alloc (Geo.blk_newk (w4.alloc (.cells #[.int .i64 a1, .int .i64 a2, .int .i64 a3, .int .i64 a4, .int .i64 a5, .int .i64 a6] 28)) (.cells #[.int .i64 b1, .int .i64 b2, .int .i64 b3, .int .i64 b4, .int .i64 b5, .int .i64 b6] 28) (k := w4.heap.size + 1) (by simp)) (.cells #[.int .i64 c1, .int .i64 c2, .int .i64 c3, .int .i64 c4, .int .i64 c5, .int .i64 c6] 28)) (.cells #[.int .i64 x, .int .i64 y, .int .i64 z] 26))
  have g3 := Lib.hid (Geo.blk_alloc (Geo.blk_newk ((w4.alloc (.cells #[.int .i64 a1, .int .i64 a2, .int .i64 a3, .int .i64 a4, .int .i64 a5, .int .i64 a6] 28)).alloc (.cells #[.int .i64 b1, .int .i64 b2, .int .i64 b3, .int .i64 b4, .int .i64 b5, .int .i64 b6] 28)) (.cells #[.int .i64 c1, .int .i64 c2, .int .i64 c3, .int .i64 c4, .int .i64 c5, .int .i64 c6] 28) (k := w4.heap.size + 1 + 1) (by simp)) (.cells #[.int .i64 x, .int .i64 y, .int .i64 z] 26))
  have g4 := Lib.hid (Geo.blk_newk (((w4.alloc (.cells #[.int .i64 a1, .int .i64 a2, .int .i64 a3, .int .i64 a4, .int .i64 a5, .int .i64 a6] 28)).alloc (.cells #[.int .i64 b1, .int .i64 b2, .int .i64 b3, .int .i64 b4, .int .i64 b5, .int .i64 b6] 28)).alloc (.cells #[.int .i64 c1, .int .i64 c2, .int .i64 c3, .int .i64 c4, .int .i64 c5, .int .i64 c6] 28)) (.cells #[.int .i64 x, .int .i64 y, .int .i64 z] 26) (k := w4.heap.size + 1 + 1 + 1) (by simp))
  replace hb := Lib.hid (Geo.bl_alloc (Geo.bl_alloc (Geo.bl_alloc (Geo.bl_alloc hb.out (o := (.cells #[.int .i64 a1, .int .i64 a2, .int .i64 a3, .int .i64 a4, .int .i64 a5, .int .i64 a6] 28))) (o := (.cells #[.int .i64 b1, .int .i64 b2, .int .i64 b3, .int .i64 b4, .int .i64 b5, .int .i64 b6] 28))) (o := (.cells #[.int .i64 c1, .int .i64 c2, .int .i64 c3, .int .i64 c4, .int .i64 c5, .int .i64 c6] 28))) (o := (.cells #[.int .i64 x, .int .i64 y, .int .i64 z] 26)))
  have HAB := Geo.hull_yes a1 a2 a3 a4 a5 a6 b1 b2 b3 b4 b5 b6 v1 v2
  have HBA := Geo.hull_yes b1 b2 b3 b4 b5 b6 a1 a2 a3 a4 a5 a6 v2 v1
  rw [Int.min_comm b1 a1, Int.min_comm b2 a2, Int.min_comm b3 a3, Int.max_comm b4 a4, Int.max_comm b5 a5, Int.max_comm b6 a6] at HBA
  obtain ⟨vh, wa, wb, hw⟩ := Geo.hull_facts v1 v2
  have HHA := Geo.hull_yes (min a1 b1) (min a2 b2) (min a3 b3) (max a4 b4) (max a5 b5) (max a6 b6) a1 a2 a3 a4 a5 a6 vh v1
  rw [Geo.min_abs a1 b1, Geo.min_abs a2 b2, Geo.min_abs a3 b3, Geo.max_abs a4 b4, Geo.max_abs a5 b5, Geo.max_abs a6 b6] at HHA
  generalize min a1 b1 = h1 at *
  generalize min a2 b2 = h2 at *
  generalize min a3 b3 = h3 at *
  generalize max a4 b4 = h4 at *
  generalize max a5 b5 = h5 at *
  generalize max a6 b6 = h6 at *
  replace HAB := Lib.hid HAB
  replace HBA := Lib.hid HBA
  replace HHA := Lib.hid HHA
  have WAH := Lib.hid (Geo.within_yes a1 a2 a3 a4 a5 a6 h1 h2 h3 h4 h5 h6 v1 vh wa)
  have WBH := Lib.hid (Geo.within_yes b1 b2 b3 b4 b5 b6 h1 h2 h3 h4 h5 h6 v2 vh wb)
  have WAC := Lib.hid (Geo.within_any a1 a2 a3 a4 a5 a6 c1 c2 c3 c4 c5 c6 v1 v3)
  have WBC := Lib.hid (Geo.within_any b1 b2 b3 b4 b5 b6 c1 c2 c3 c4 c5 c6 v2 v3)
  have WHC := Lib.hid (Geo.within_any h1 h2 h3 h4 h5 h6 c1 c2 c3 c4 c5 c6 vh v3)
  have hh := Lib.hid (Geo.wi_hull v1 v2 v3 hw)
  have NH := Lib.hid (Geo.near_yes h1 h2 h3 h4 h5 h6 x y z vh vp)
  have FH := Lib.hid (Geo.far_yes h1 h2 h3 h4 h5 h6 x y z vh vp)
  have NA := Lib.hid (Geo.near_yes a1 a2 a3 a4 a5 a6 x y z v1 vp)
  have FA := Lib.hid (Geo.far_yes a1 a2 a3 a4 a5 a6 x y z v1 vp)
  have NB := Lib.hid (Geo.near_yes b1 b2 b3 b4 b5 b6 x y z v2 vp)
  have FB := Lib.hid (Geo.far_yes b1 b2 b3 b4 b5 b6 x y z v2 vp)
  have n1 := Geo.near_mono (x := x) (y := y) (z := z) v1 wa
  have n2 := Geo.near_mono (x := x) (y := y) (z := z) v2 wb
  have f1 := Geo.far_mono (x := x) (y := y) (z := z) v1 wa
  have f2 := Geo.far_mono (x := x) (y := y) (z := z) v2 wb
  generalize Geo.near3 h1 h2 h3 h4 h5 h6 x y z = nH at *
  generalize Geo.far3 h1 h2 h3 h4 h5 h6 x y z = fH at *
  generalize Geo.near3 a1 a2 a3 a4 a5 a6 x y z = nA at *
  generalize Geo.far3 a1 a2 a3 a4 a5 a6 x y z = fA at *
  generalize Geo.near3 b1 b2 b3 b4 b5 b6 x y z = nB at *
  generalize Geo.far3 b1 b2 b3 b4 b5 b6 x y z = fB at *
  have dn : decide (nH ≤ min nA nB) = true := by simp; omega
  have df : decide (max fA fB ≤ fH) = true := by simp; omega
  generalize Geo.wiB a1 a2 a3 a4 a5 a6 c1 c2 c3 c4 c5 c6 = bac at *
  generalize Geo.wiB b1 b2 b3 b4 b5 b6 c1 c2 c3 c4 c5 c6 = bbc at *
  generalize Geo.wiB h1 h2 h3 h4 h5 h6 c1 c2 c3 c4 c5 c6 = bhc at *
  clear v1 v2 v3 vh vp wa wb hw n1 n2 f1 f2
  go_wp2_with fail
  generalize ((((w4.alloc (.cells #[.int .i64 a1, .int .i64 a2, .int .i64 a3, .int .i64 a4, .int .i64 a5, .int .i64 a6] 28)).alloc (.cells #[.int .i64 b1, .int .i64 b2, .int .i64 b3, .int .i64 b4, .int .i64 b5, .int .i64 b6] 28)).alloc (.cells #[.int .i64 c1, .int .i64 c2, .int .i64 c3, .int .i64 c4, .int .i64 c5, .int .i64 c6] 28)).alloc (.cells #[.int .i64 x, .int .i64 y, .int .i64 z] 26)) = w5 at *
  obtain ⟨q1, q2, q3, q4, q5, q6⟩ := Geo.cells6 g1.out
  obtain ⟨r1, r2, r3, r4, r5, r6⟩ := Geo.cells6 g2.out
  go_wp2_with fail
  with_reducible refine (HAB.out _).mono ?_
  rintro e w6 ⟨rfl, hc⟩
  clear q1 q2 q3 q4 q5 q6 r1 r2 r3 r4 r5 r6
  replace g1 := Lib.hid (Geo.blk_alloc (Geo.blk_b hc g1.out) (.cells #[.int .i64 h1, .int .i64 h2, .int .i64 h3, .int .i64 h4, .int .i64 h5, .int .i64 h6] 28))
  replace g2 := Lib.hid (Geo.blk_alloc (Geo.blk_b hc g2.out) (.cells #[.int .i64 h1, .int .i64 h2, .int .i64 h3, .int .i64 h4, .int .i64 h5, .int .i64 h6] 28))
  replace g3 := Lib.hid (Geo.blk_alloc (Geo.blk_b hc g3.out) (.cells #[.int .i64 h1, .int .i64 h2, .int .i64 h3, .int .i64 h4, .int .i64 h5, .int .i64 h6] 28))
  replace g4 := Lib.hid (Geo.blk_alloc (Geo.blk_b hc g4.out) (.cells #[.int .i64 h1, .int .i64 h2, .int .i64 h3, .int .i64 h4, .int .i64 h5, .int .i64 h6] 28))
  have g5 := Lib.hid (Geo.blk_new w6 (.cells #[.int .i64 h1, .int .i64 h2, .int .i64 h3, .int .i64 h4, .int .i64 h5, .int .i64 h6] 28))
  replace hb := Lib.hid (Geo.bl_alloc (Buf.then_ hb.out hc) (o := (.cells #[.int .i64 h1, .int .i64 h2, .int .i64 h3, .int .i64 h4, .int .i64 h5, .int .i64 h6] 28)))
  clear hc
  go_wp2_with fail
  generalize w6.alloc (.cells #[.int .i64 h1, .int .i64 h2, .int .i64 h3, .int .i64 h4, .int .i64 h5, .int .i64 h6] 28) = w7 at *
  refine Buf.region_calm w7 (by kernel_rfl) (by kernel_rfl) (Below.refl _ _) ?_
  repeat (go_big_quiet_step ((intro hC; first
        | (go_at_call 21; first | (with_reducible exact Buf.calm hC (HAB.out _)) | (with_reducible exact Buf.calm hC (HBA.out _)) | (with_reducible exact Buf.calm hC (HHA.out _)))
        | (go_at_call 19; first | (with_reducible exact Buf.calm hC (WAH.out _)) | (with_reducible exact Buf.calm hC (WBH.out _)) | (with_reducible exact Buf.calm hC (WAC.out _)) | (with_reducible exact Buf.calm hC (WBC.out _)) | (with_reducible exact Buf.calm hC (WHC.out _)))
        | (go_at_call 12; first | (with_reducible exact Buf.calm hC (NH.out _)) | (with_reducible exact Buf.calm hC (NA.out _)) | (with_reducible exact Buf.calm hC (NB.out _)))
        | (go_at_call 13; first | (with_reducible exact Buf.calm hC (FH.out _)) | (with_reducible exact Buf.calm hC (FA.out _)) | (with_reducible exact Buf.calm hC (FB.out _)))
        | (go_at_call 15; exact Buf.calm hC (Geo.awake_any _))
        | rfl
        | (simp only [(Geo.bcells g1 hC).1, (Geo.bcells g1 hC).2.1, (Geo.bcells g1 hC).2.2.1, (Geo.bcells g1 hC).2.2.2.1, (Geo.bcells g1 hC).2.2.2.2.1, (Geo.bcells g1 hC).2.2.2.2.2, Result.andThen_ok]; exact ⟨trivial, rfl⟩)
        | (simp only [(Geo.bcells g2 hC).1, (Geo.bcells g2 hC).2.1, (Geo.bcells g2 hC).2.2.1, (Geo.bcells g2 hC).2.2.2.1, (Geo.bcells g2 hC).2.2.2.2.1, (Geo.bcells g2 hC).2.2.2.2.2, Result.andThen_ok]; exact ⟨trivial, rfl⟩)
        | (simp only [(Geo.bcells g3 hC).1, (Geo.bcells g3 hC).2.1, (Geo.bcells g3 hC).2.2.1, (Geo.bcells g3 hC).2.2.2.1, (Geo.bcells g3 hC).2.2.2.2.1, (Geo.bcells g3 hC).2.2.2.2.2, Result.andThen_ok]; exact ⟨trivial, rfl⟩)
        | (simp only [(Geo.bcells g5 hC).1, (Geo.bcells g5 hC).2.1, (Geo.bcells g5 hC).2.2.1, (Geo.bcells g5 hC).2.2.2.1, (Geo.bcells g5 hC).2.2.2.2.1, (Geo.bcells g5 hC).2.2.2.2.2, Result.andThen_ok]; exact ⟨trivial, rfl⟩)
        | (simp only [(Geo.pcells g4 hC).1, (Geo.pcells g4 hC).2.1, (Geo.pcells g4 hC).2.2, Result.andThen_ok]; exact ⟨trivial, rfl⟩))))
  refine wpQuiet_nil ?_
  intro w8 hc
  replace g1 := Lib.hid (Geo.blk_b hc g1.out)
  replace g2 := Lib.hid (Geo.blk_b hc g2.out)
  replace g3 := Lib.hid (Geo.blk_b hc g3.out)
  replace g4 := Lib.hid (Geo.blk_b hc g4.out)
  replace g5 := Lib.hid (Geo.blk_b hc g5.out)
  replace hb := Lib.hid (Buf.then_ hb.out hc)
  clear hc
  have hcase : (bac = false) ∨ (bac = true ∧ bbc = false) ∨ (bac = true ∧ bbc = true ∧ bhc = true) := by
    cases bac with
    | false => exact .inl rfl
    | true =>
      cases bbc with
      | false => exact .inr (.inl ⟨rfl, rfl⟩)
      | true => exact .inr (.inr ⟨rfl, rfl, hh.out rfl rfl⟩)
  clear hh
  obtain ⟨q1, q2, q3, q4, q5, q6⟩ := Geo.cells6 g1.out
  obtain ⟨r1, r2, r3, r4, r5, r6⟩ := Geo.cells6 g2.out
  obtain ⟨s1, s2, s3, s4, s5, s6⟩ := Geo.cells6 g3.out
  obtain ⟨t1, t2, t3, t4, t5, t6⟩ := Geo.cells6 g5.out
  rcases hcase with rfl | ⟨rfl, rfl⟩ | ⟨rfl, rfl, rfl⟩
  all_goals
    go_wp2_with (go_at_call 19; (first | (with_reducible refine (WAC.out _).mono ?_) | (with_reducible refine (WBC.out _).mono ?_) | (with_reducible refine (WHC.out _).mono ?_)); rintro e w9 ⟨rfl, hc⟩; replace g1 := Lib.hid (Geo.blk_b hc g1.out); replace g2 := Lib.hid (Geo.blk_b hc g2.out); replace g3 := Lib.hid (Geo.blk_b hc g3.out); replace g4 := Lib.hid (Geo.blk_b hc g4.out); replace g5 := Lib.hid (Geo.blk_b hc g5.out); replace hb := Lib.hid (Buf.then_ hb.out hc); clear hc; obtain ⟨q1, q2, q3, q4, q5, q6⟩ := Geo.cells6 g1.out; obtain ⟨r1, r2, r3, r4, r5, r6⟩ := Geo.cells6 g2.out; obtain ⟨s1, s2, s3, s4, s5, s6⟩ := Geo.cells6 g3.out; obtain ⟨t1, t2, t3, t4, t5, t6⟩ := Geo.cells6 g5.out)
    clear q1 q2 q3 q4 q5 q6 r1 r2 r3 r4 r5 r6 s1 s2 s3 s4 s5 s6 t1 t2 t3 t4 t5 t6
    refine Buf.region_calm _ (by kernel_rfl) (by kernel_rfl) (Below.refl _ _) ?_
    repeat (go_big_quiet_step ((intro hC; first
          | (go_at_call 21; first | (with_reducible exact Buf.calm hC (HAB.out _)) | (with_reducible exact Buf.calm hC (HBA.out _)) | (with_reducible exact Buf.calm hC (HHA.out _)))
          | (go_at_call 19; first | (with_reducible exact Buf.calm hC (WAH.out _)) | (with_reducible exact Buf.calm hC (WBH.out _)) | (with_reducible exact Buf.calm hC (WAC.out _)) | (with_reducible exact Buf.calm hC (WBC.out _)) | (with_reducible exact Buf.calm hC (WHC.out _)))
          | (go_at_call 12; first | (with_reducible exact Buf.calm hC (NH.out _)) | (with_reducible exact Buf.calm hC (NA.out _)) | (with_reducible exact Buf.calm hC (NB.out _)))
          | (go_at_call 13; first | (with_reducible exact Buf.calm hC (FH.out _)) | (with_reducible exact Buf.calm hC (FA.out _)) | (with_reducible exact Buf.calm hC (FB.out _)))
          | (go_at_call 15; exact Buf.calm hC (Geo.awake_any _))
          | rfl
          | (simp only [(Geo.bcells g1 hC).1, (Geo.bcells g1 hC).2.1, (Geo.bcells g1 hC).2.2.1, (Geo.bcells g1 hC).2.2.2.1, (Geo.bcells g1 hC).2.2.2.2.1, (Geo.bcells g1 hC).2.2.2.2.2, Result.andThen_ok]; exact ⟨trivial, rfl⟩)
          | (simp only [(Geo.bcells g2 hC).1, (Geo.bcells g2 hC).2.1, (Geo.bcells g2 hC).2.2.1, (Geo.bcells g2 hC).2.2.2.1, (Geo.bcells g2 hC).2.2.2.2.1, (Geo.bcells g2 hC).2.2.2.2.2, Result.andThen_ok]; exact ⟨trivial, rfl⟩)
          | (simp only [(Geo.bcells g3 hC).1, (Geo.bcells g3 hC).2.1, (Geo.bcells g3 hC).2.2.1, (Geo.bcells g3 hC).2.2.2.1, (Geo.bcells g3 hC).2.2.2.2.1, (Geo.bcells g3 hC).2.2.2.2.2, Result.andThen_ok]; exact ⟨trivial, rfl⟩)
          | (simp only [(Geo.bcells g5 hC).1, (Geo.bcells g5 hC).2.1, (Geo.bcells g5 hC).2.2.1, (Geo.bcells g5 hC).2.2.2.1, (Geo.bcells g5 hC).2.2.2.2.1, (Geo.bcells g5 hC).2.2.2.2.2, Result.andThen_ok]; exact ⟨trivial, rfl⟩)
          | (simp only [(Geo.pcells g4 hC).1, (Geo.pcells g4 hC).2.1, (Geo.pcells g4 hC).2.2, Result.andThen_ok]; exact ⟨trivial, rfl⟩))))
    refine wpQuiet_nil ?_
    intro w10 hc
    go_wp2
    go_ret
    exact ⟨rfl, Buf.then_ hb.out hc⟩
end Laws
end Go.Proofs.Ythnjibbmacejiaa
