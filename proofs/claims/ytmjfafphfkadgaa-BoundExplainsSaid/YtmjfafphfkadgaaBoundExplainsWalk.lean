/- The walk of BoundExplains. -/
import Derived.Test.YtmjfafphfkadgaaBoundC
import Derived.Test.YtmjfafphfkadgaaBoundD
import Derived.Test.YtmjfafphfkadgaaPlaceC
import Derived.Test.YtmjfafphfkadgaaPhase
import Derived.Deep.DeepCutAuto
import Derived.Deep.RegionHeld3
set_option linter.unusedVariables false
namespace Go.Proofs.Ytmjfafphfkadgaa
open Go.RowKit
namespace Laws
theorem z2_far {w : World} {t : Nat} {a b : Value} {x : Addr} (h : t ≠ x.block) : ((w.setCell ⟨t, 0, none⟩ a).setCell ⟨t, 1, none⟩ b).cell? x = w.cell? x := by
  rw [World.cell?_setCell_far _ _ _ _ h, World.cell?_setCell_far _ _ _ _ h]
set_option maxHeartbeats 8000000 in
set_option maxRecDepth 100000 in
theorem boundExplains_walk (a0 : Option Addr) (len0 cap0 : Nat) (z0 : List Int) (w : World) (w0 : Buf.IsRow .i64 w a0 len0 cap0 z0) :
    Calls Try.prog 4 #[.slice a0 len0 cap0] w fun e w' => e = .returned (.bool true) ∧ Below w.heap.size w w' := by
  go_enter Try.func4, Try.ntmps4
  go_wp2_with fail
  refine (Src.new_any a0 len0 cap0 z0 w w0).mono ?_
  rintro e0 wA ⟨rfl, m, hd⟩
  have L0 := Lib.hid (Src.Left.refl hd)
  clear hd w0
  go_wp2_with fail
  refine (Trav.table_any L0.out.di).mono ?_
  rintro e0 w2 ⟨⟨s, b1, b2, n, c1, c2, lo, hi, rfl, tv0, re, s9, n9, lb1, lb2⟩, hl⟩
  have ltA := L0.out.di.lt
  have nb1 : b1 ≠ w.heap.size := by omega
  have nb2 : b2 ≠ w.heap.size := by omega
  replace L0 := Lib.hid (L0.out.trans hl)
  have tv : Hid (Bound.Wide w2 s b1 b2 n lo hi) := Lib.hid (Bound.Wide.mk tv0 re)
  clear hl ltA tv0 re lb1 lb2 s9 n9
  go_wp2_with fail
  refine (Src.box_any 60 40 L0.out.di (by omega) (by omega) (by omega) (by omega)).mono ?_
  rintro e0 w3 ⟨⟨a, b, c, d, e, f, rfl, vb, sd, se, sf, a0', a1', b0', b1', c0', c1'⟩, hl⟩
  replace tv := Lib.hid (Bound.Wide.mk (tv.out.tv.left hl nb1 nb2) tv.out.re)
  replace L0 := Lib.hid (L0.out.trans hl)
  clear hl
  go_wp2_with fail
  refine (Src.phase_any L0.out.di).mono ?_
  rintro e0 w4 ⟨⟨x, y, z, E, L, W, rfl, x0, x1, y0, y1, z1, z2, i0, i1, i2, i3, i4, i5⟩, hl⟩
  replace tv := Lib.hid (Bound.Wide.mk (tv.out.tv.left hl nb1 nb2) tv.out.re)
  replace L0 := Lib.hid (L0.out.trans hl)
  clear hl
  have lt4 := L0.out.di.lt
  have g1 := Lib.hid (Trav.blk3a w4 (.cells #[.int .i64 s, .slice (some ⟨b1, 0, none⟩) n c1, .slice (some ⟨b2, 0, none⟩) n c2] 26) (.cells #[.int .i64 a, .int .i64 b, .int .i64 c, .int .i64 d, .int .i64 e, .int .i64 f] 31) (.cells #[.int .i64 x, .int .i64 y, .int .i64 z, .int .i64 E, .int .i64 L, .int .i64 W] 45))
  have g2 := Lib.hid (Trav.blk3b w4 (.cells #[.int .i64 s, .slice (some ⟨b1, 0, none⟩) n c1, .slice (some ⟨b2, 0, none⟩) n c2] 26) (.cells #[.int .i64 a, .int .i64 b, .int .i64 c, .int .i64 d, .int .i64 e, .int .i64 f] 31) (.cells #[.int .i64 x, .int .i64 y, .int .i64 z, .int .i64 E, .int .i64 L, .int .i64 W] 45))
  have g3 := Lib.hid (Trav.blk3c w4 (.cells #[.int .i64 s, .slice (some ⟨b1, 0, none⟩) n c1, .slice (some ⟨b2, 0, none⟩) n c2] 26) (.cells #[.int .i64 a, .int .i64 b, .int .i64 c, .int .i64 d, .int .i64 e, .int .i64 f] 31) (.cells #[.int .i64 x, .int .i64 y, .int .i64 z, .int .i64 E, .int .i64 L, .int .i64 W] 45))
  replace tv := Lib.hid (tv.out.below (Trav.bel3 w4 (.cells #[.int .i64 s, .slice (some ⟨b1, 0, none⟩) n c1, .slice (some ⟨b2, 0, none⟩) n c2] 26) (.cells #[.int .i64 a, .int .i64 b, .int .i64 c, .int .i64 d, .int .i64 e, .int .i64 f] 31) (.cells #[.int .i64 x, .int .i64 y, .int .i64 z, .int .i64 E, .int .i64 L, .int .i64 W] 45)))
  replace L0 := Lib.hid (L0.out.below (Trav.bel3 w4 (.cells #[.int .i64 s, .slice (some ⟨b1, 0, none⟩) n c1, .slice (some ⟨b2, 0, none⟩) n c2] 26) (.cells #[.int .i64 a, .int .i64 b, .int .i64 c, .int .i64 d, .int .i64 e, .int .i64 f] 31) (.cells #[.int .i64 x, .int .i64 y, .int .i64 z, .int .i64 E, .int .i64 L, .int .i64 W] 45)))
  have ne1 : w4.heap.size ≠ w.heap.size := by omega
  have ne2 : w4.heap.size + 1 ≠ w.heap.size := by omega
  have ne3 : w4.heap.size + 1 + 1 ≠ w.heap.size := by omega
  have vp : Geo.PV x y z := ⟨by omega, by omega, by omega, by omega, by omega, by omega⟩
  have vph : Bound.PhV x y z E L W := ⟨vp, by omega, by omega, by omega, by omega, by omega⟩
  have far := Bound.far_small (x := x) (y := y) (z := z) vb (by omega) (by omega) (by omega) (by omega) (by omega) (by omega) (by omega) (by omega) (by omega) x0 x1 y0 y1 (by omega) z2
  obtain ⟨m0, m1, _⟩ := Bound.near_far vb vp
  have BZ := Lib.hid fun w h => Bound.zone_bx s b1 b2 n c1 c2 lo hi a b c d e f x y z E L W w h vb vph far
  clear sd se sf a0' a1' b0' b1' c0' c1' x0 x1 y0 y1 z1 z2
  go_wp2_with fail
  obtain ⟨w5, hw5⟩ : ∃ w5, w5 = ((w4.alloc (.cells #[.int .i64 s, .slice (some ⟨b1, 0, none⟩) n c1, .slice (some ⟨b2, 0, none⟩) n c2] 26)).alloc (.cells #[.int .i64 a, .int .i64 b, .int .i64 c, .int .i64 d, .int .i64 e, .int .i64 f] 31)).alloc (.cells #[.int .i64 x, .int .i64 y, .int .i64 z, .int .i64 E, .int .i64 L, .int .i64 W] 45) := ⟨_, rfl⟩
  rw [← hw5] at g1 g2 g3 tv L0 ⊢
  clear hw5
  obtain ⟨kb1, kb2, kb3, kb4, kb5, kb6⟩ := Geo.cells6 g2.out
  go_wp2_with fail
  refine (Src.point_any a b c d e f vb L0.out.di).mono ?_
  rintro e0 w6 ⟨⟨p, q, r, rfl, k1, k2, k3, k4, k5, k6⟩, hl⟩
  clear kb1 kb2 kb3 kb4 kb5 kb6
  replace g1 := Lib.hid (hl.blk g1.out ne1)
  replace g2 := Lib.hid (hl.blk g2.out ne2)
  replace g3 := Lib.hid (hl.blk g3.out ne3)
  replace tv := Lib.hid (Bound.Wide.mk (tv.out.tv.left hl nb1 nb2) tv.out.re)
  replace L0 := Lib.hid (L0.out.trans hl)
  clear hl
  have nl := Geo.near_le (x := x) (y := y) (z := z) k1 k2 k3 k4 k5 k6
  have fg := Geo.far_ge (x := x) (y := y) (z := z) k1 k2 k3 k4 k5 k6
  rw [Bound.sq_comm x y z p q r] at nl fg
  have i6 := (tv.out.mono m0 nl (by omega)).1
  have i7 := (tv.out.mono (by omega) fg far).2
  have i8 := tv.out.bd (m := Geo.sq3 p q r x y z) (by omega) (by omega)
  have i9 := tv.out.bd m0 (by omega)
  have i10 := tv.out.bd (m := Geo.far3 a b c d e f x y z) (by omega) far
  have vq := Bound.pt_of vb k1 k2 k3 k4 k5 k6
  have q9 : Geo.sq3 p q r x y z ≤ 160000 := by omega
  have ZN := fun w h => Bound.zone_bx s b1 b2 n c1 c2 lo hi p q r p q r x y z E L W w h (Bound.bv_one vq) vph (by rw [Bound.far_one]; exact q9)
  rw [Bound.near_one, Bound.far_one] at ZN
  replace ZN := Lib.hid ZN
  have PJ := Lib.hid fun w h => Bound.pt_int s b1 b2 n c1 c2 lo hi p q r x y z w h vq vp q9
  have ONE := Lib.hid fun w => Bound.one_any p q r w
  have lt6 := L0.out.di.lt
  have ne4 : w6.heap.size ≠ w.heap.size := by omega
  have g4 := Lib.hid (Trav.blk_new w6 (.cells #[.int .i64 p, .int .i64 q, .int .i64 r] 29))
  have hQ := Trav.new_block (w := w6) (.cells #[.int .i64 p, .int .i64 q, .int .i64 r] 29)
  replace g1 := Lib.hid (Trav.blk_b hQ g1.out)
  replace g2 := Lib.hid (Trav.blk_b hQ g2.out)
  replace g3 := Lib.hid (Trav.blk_b hQ g3.out)
  replace tv := Lib.hid (tv.out.below hQ)
  replace L0 := Lib.hid (L0.out.below hQ)
  clear hQ
  clear k1 k2 k3 k4 k5 k6 q9 nl fg m0 m1 far vq vph
  generalize Bound.LO s lo (Geo.sq3 p q r x y z) = lq at *
  generalize Bound.HI s hi (Geo.sq3 p q r x y z) = hq at *
  generalize Bound.LO s lo (Geo.near3 a b c d e f x y z) = lB at *
  generalize Bound.HI s hi (Geo.far3 a b c d e f x y z) = hB at *
  obtain ⟨kt1, kt2, kt3⟩ := Trav.tcells g1.out
  obtain ⟨kh1, kh2, kh3, kh4, kh5, kh6⟩ := Geo.cells6 g3.out
  obtain ⟨kq1, kq2, kq3⟩ := Trav.tcells g4.out
  go_wp2_with fail
  generalize w6.alloc (.cells #[.int .i64 p, .int .i64 q, .int .i64 r] 29) = w7 at *
  refine (PJ.out _ tv.out).mono ?_
  rintro e0 wz ⟨rfl, hc⟩
  replace g1 := Lib.hid (Trav.blk_b hc g1.out)
  replace g2 := Lib.hid (Trav.blk_b hc g2.out)
  replace g3 := Lib.hid (Trav.blk_b hc g3.out)
  replace g4 := Lib.hid (Trav.blk_b hc g4.out)
  replace tv := Lib.hid (tv.out.below hc)
  replace L0 := Lib.hid (L0.out.below hc)
  clear hc
  clear kt1 kt2 kt3 kh1 kh2 kh3 kh4 kh5 kh6 kq1 kq2 kq3 PJ
  go_wp2_with fail
  go_cut [11, 12] (fun s11 s12 wx => ∃ P : Nat, s11 = .pointer (some ⟨P, 0, none⟩) ∧ s12 = .int .i64 0 ∧ Hid (P ≠ w.heap.size) ∧ Hid (wx.heap[w4.heap.size]? = some (.cells #[.int .i64 s, .slice (some ⟨b1, 0, none⟩) n c1, .slice (some ⟨b2, 0, none⟩) n c2] 26 (0, 0))) ∧ Hid (wx.heap[w4.heap.size + 1]? = some (.cells #[.int .i64 a, .int .i64 b, .int .i64 c, .int .i64 d, .int .i64 e, .int .i64 f] 31 (0, 0))) ∧ Hid (wx.heap[w4.heap.size + 1 + 1]? = some (.cells #[.int .i64 x, .int .i64 y, .int .i64 z, .int .i64 E, .int .i64 L, .int .i64 W] 45 (0, 0))) ∧ Hid (wx.heap[P]? = some (.cells #[.int .i64 (E - hq), .int .i64 (L - lq)] 48 (0, 0))) ∧ Hid (Bound.Wide wx s b1 b2 n lo hi) ∧ Hid (Src.Left w wA wx w.heap.size a0 m cap0 z0))
  case first =>
    obtain ⟨kt1, kt2, kt3⟩ := Trav.tcells g1.out
    obtain ⟨kh1, kh2, kh3, kh4, kh5, kh6⟩ := Geo.cells6 g3.out
    obtain ⟨kq1, kq2, kq3⟩ := Trav.tcells g4.out
    have n1 := World.new_ne wz _ kt1
    have n3 := World.new_ne wz _ kh1
    have n4 := World.new_ne wz _ kq1
    have sz : IntKind.i64.wrap (E - hq) = E - hq := IntWalk.i64_in _ (by omega)
    go_region_held3 (fun w' => w'.cell? ⟨w4.heap.size, 0, none⟩ = some (.int .i64 s) ∧ w'.cell? ⟨w4.heap.size, 1, none⟩ = some (.slice (some ⟨b1, 0, none⟩) n c1) ∧ w'.cell? ⟨w4.heap.size, 2, none⟩ = some (.slice (some ⟨b2, 0, none⟩) n c2) ∧ w'.cell? ⟨w4.heap.size + 1 + 1, 0, none⟩ = some (.int .i64 x) ∧ w'.cell? ⟨w4.heap.size + 1 + 1, 1, none⟩ = some (.int .i64 y) ∧ w'.cell? ⟨w4.heap.size + 1 + 1, 2, none⟩ = some (.int .i64 z) ∧ w'.cell? ⟨w4.heap.size + 1 + 1, 3, none⟩ = some (.int .i64 E) ∧ w'.cell? ⟨w4.heap.size + 1 + 1, 4, none⟩ = some (.int .i64 L) ∧ w'.cell? ⟨w4.heap.size + 1 + 1, 5, none⟩ = some (.int .i64 W) ∧ w'.cell? ⟨w6.heap.size, 0, none⟩ = some (.int .i64 p) ∧ w'.cell? ⟨w6.heap.size, 1, none⟩ = some (.int .i64 q) ∧ w'.cell? ⟨w6.heap.size, 2, none⟩ = some (.int .i64 r))
      (first
        | (go_split_ands; ((with_reducible refine ⟨at1, at2, at3, ah1, ah2, ah3, ah4, ah5, ah6, aq1, aq2, aq3⟩)))
        | (go_split_ands; ((with_reducible refine ⟨(z2_far m1).trans at1, (z2_far m1).trans at2, (z2_far m1).trans at3, (z2_far m3).trans ah1, (z2_far m3).trans ah2, (z2_far m3).trans ah3, (z2_far m3).trans ah4, (z2_far m3).trans ah5, (z2_far m3).trans ah6, (z2_far m4).trans aq1, (z2_far m4).trans aq2, (z2_far m4).trans aq3⟩)))
        | go_keep)
      ((first
        | (go_at_call 15; (with_reducible refine (ONE.out wz).mono ?_); rintro r w13 ⟨rfl, hb13⟩; have W13 : Hid (Below wz.heap.size wz w13) := Lib.hid (Buf.then_ (Below.refl _ _) hb13); obtain ⟨at1, at2, at3⟩ := Trav.tcells (Trav.blk_b W13.out g1.out); obtain ⟨ah1, ah2, ah3, ah4, ah5, ah6⟩ := Geo.cells6 (Trav.blk_b W13.out g3.out); obtain ⟨aq1, aq2, aq3⟩ := Trav.tcells (Trav.blk_b W13.out g4.out))
        | (go_at_call 15; (with_reducible refine (ONE.out wz.drew).mono ?_); rintro r w13 ⟨rfl, hb13⟩; have W13 : Hid (Below wz.heap.size wz w13) := Lib.hid (Buf.then_ (Below.refl _ _).drew hb13); obtain ⟨at1, at2, at3⟩ := Trav.tcells (Trav.blk_b W13.out g1.out); obtain ⟨ah1, ah2, ah3, ah4, ah5, ah6⟩ := Geo.cells6 (Trav.blk_b W13.out g3.out); obtain ⟨aq1, aq2, aq3⟩ := Trav.tcells (Trav.blk_b W13.out g4.out))
        | (go_at_call 15; (with_reducible refine (ONE.out (wz.alloc (.cells #[.int .i64 0, .int .i64 0] 48))).mono ?_); rintro r w13 ⟨rfl, hb13⟩; have W13 : Hid (Below wz.heap.size wz w13) := Lib.hid (Buf.then_ (Trav.new_block (.cells #[.int .i64 0, .int .i64 0] 48)) hb13); obtain ⟨at1, at2, at3⟩ := Trav.tcells (Trav.blk_b W13.out g1.out); obtain ⟨ah1, ah2, ah3, ah4, ah5, ah6⟩ := Geo.cells6 (Trav.blk_b W13.out g3.out); obtain ⟨aq1, aq2, aq3⟩ := Trav.tcells (Trav.blk_b W13.out g4.out); have FB : Hid (w13.heap[wz.heap.size]? = some (.cells #[.int .i64 0, .int .i64 0] 48 (0, 0))) := Lib.hid ((hb13.block wz.heap.size (by simp)).trans (heap_alloc_new _ _)))
        | (go_at_call 15; (with_reducible refine (ONE.out (wz.alloc (.cells #[.int .i64 0, .int .i64 0] 48)).drew).mono ?_); rintro r w13 ⟨rfl, hb13⟩; have W13 : Hid (Below wz.heap.size wz w13) := Lib.hid (Buf.then_ (Trav.new_block (.cells #[.int .i64 0, .int .i64 0] 48)).drew hb13); obtain ⟨at1, at2, at3⟩ := Trav.tcells (Trav.blk_b W13.out g1.out); obtain ⟨ah1, ah2, ah3, ah4, ah5, ah6⟩ := Geo.cells6 (Trav.blk_b W13.out g3.out); obtain ⟨aq1, aq2, aq3⟩ := Trav.tcells (Trav.blk_b W13.out g4.out); have FB : Hid (w13.heap[wz.heap.size]? = some (.cells #[.int .i64 0, .int .i64 0] 48 (0, 0))) := Lib.hid ((hb13.block wz.heap.size (by simp)).trans (heap_alloc_new _ _)))
        | (go_at_call 15; (with_reducible refine (ONE.out (wz.drew.alloc (.cells #[.int .i64 0, .int .i64 0] 48))).mono ?_); rintro r w13 ⟨rfl, hb13⟩; have W13 : Hid (Below wz.heap.size wz w13) := Lib.hid (Buf.then_ ((Below.refl _ _).drew.alloc (Nat.le_refl _) (.cells #[.int .i64 0, .int .i64 0] 48)) hb13); obtain ⟨at1, at2, at3⟩ := Trav.tcells (Trav.blk_b W13.out g1.out); obtain ⟨ah1, ah2, ah3, ah4, ah5, ah6⟩ := Geo.cells6 (Trav.blk_b W13.out g3.out); obtain ⟨aq1, aq2, aq3⟩ := Trav.tcells (Trav.blk_b W13.out g4.out); have FB : Hid (w13.heap[wz.heap.size]? = some (.cells #[.int .i64 0, .int .i64 0] 48 (0, 0))) := Lib.hid ((hb13.block wz.heap.size (by simp)).trans (heap_alloc_new _ _)))
        | (go_at_call 20; (with_reducible refine (ZN.out w13 (tv.out.below (Buf.then_ W13.out (Below.refl _ _)))).mono ?_); rintro r w15 ⟨rfl, hb15⟩; have W15 : Hid (Below wz.heap.size wz w15) := Lib.hid (Buf.then_ (Buf.then_ W13.out (Below.refl _ _)) hb15); have v1 := World.new_ne w13 _ at1; have v3 := World.new_ne w13 _ ah1; have v4 := World.new_ne w13 _ aq1; clear at1 at2 at3 ah1 ah2 ah3 ah4 ah5 ah6 aq1 aq2 aq3; obtain ⟨at1, at2, at3⟩ := Trav.tcells (Trav.blk_b W15.out g1.out); obtain ⟨ah1, ah2, ah3, ah4, ah5, ah6⟩ := Geo.cells6 (Trav.blk_b W15.out g3.out); obtain ⟨aq1, aq2, aq3⟩ := Trav.tcells (Trav.blk_b W15.out g4.out); first | (have FC := Lib.hid (Trav.blk_b hb15 FB.out); have m1 := n1; have m3 := n3; have m4 := n4; obtain ⟨y0, y1⟩ := Bound.zc FC.out; have fz0 := frozen_of_row w15 wz.heap.size 0 _ _ FC.out; have fz1 := frozen_of_row w15 wz.heap.size 1 _ _ FC.out) | (have FC := Lib.hid (Trav.blk_b hb15 (Trav.blk_new w13 (.cells #[.int .i64 0, .int .i64 0] 48))); have m1 := v1; have m3 := v3; have m4 := v4; obtain ⟨y0, y1⟩ := Bound.zc FC.out; have fz0 := frozen_of_row w15 w13.heap.size 0 _ _ FC.out; have fz1 := frozen_of_row w15 w13.heap.size 1 _ _ FC.out) | skip)
        | (go_at_call 20; (with_reducible refine (ZN.out w13.drew (tv.out.below (Buf.then_ W13.out (Below.refl _ _).drew))).mono ?_); rintro r w15 ⟨rfl, hb15⟩; have W15 : Hid (Below wz.heap.size wz w15) := Lib.hid (Buf.then_ (Buf.then_ W13.out (Below.refl _ _).drew) hb15); have v1 := World.new_ne w13 _ at1; have v3 := World.new_ne w13 _ ah1; have v4 := World.new_ne w13 _ aq1; clear at1 at2 at3 ah1 ah2 ah3 ah4 ah5 ah6 aq1 aq2 aq3; obtain ⟨at1, at2, at3⟩ := Trav.tcells (Trav.blk_b W15.out g1.out); obtain ⟨ah1, ah2, ah3, ah4, ah5, ah6⟩ := Geo.cells6 (Trav.blk_b W15.out g3.out); obtain ⟨aq1, aq2, aq3⟩ := Trav.tcells (Trav.blk_b W15.out g4.out); first | (have FC := Lib.hid (Trav.blk_b hb15 FB.out); have m1 := n1; have m3 := n3; have m4 := n4; obtain ⟨y0, y1⟩ := Bound.zc FC.out; have fz0 := frozen_of_row w15 wz.heap.size 0 _ _ FC.out; have fz1 := frozen_of_row w15 wz.heap.size 1 _ _ FC.out) | (have FC := Lib.hid (Trav.blk_b hb15 (Trav.blk_new w13 (.cells #[.int .i64 0, .int .i64 0] 48))); have m1 := v1; have m3 := v3; have m4 := v4; obtain ⟨y0, y1⟩ := Bound.zc FC.out; have fz0 := frozen_of_row w15 w13.heap.size 0 _ _ FC.out; have fz1 := frozen_of_row w15 w13.heap.size 1 _ _ FC.out) | skip)
        | (go_at_call 20; (with_reducible refine (ZN.out (w13.alloc (.cells #[.int .i64 0, .int .i64 0] 48)) (tv.out.below (Buf.then_ W13.out (Trav.new_block (.cells #[.int .i64 0, .int .i64 0] 48))))).mono ?_); rintro r w15 ⟨rfl, hb15⟩; have W15 : Hid (Below wz.heap.size wz w15) := Lib.hid (Buf.then_ (Buf.then_ W13.out (Trav.new_block (.cells #[.int .i64 0, .int .i64 0] 48))) hb15); have v1 := World.new_ne w13 _ at1; have v3 := World.new_ne w13 _ ah1; have v4 := World.new_ne w13 _ aq1; clear at1 at2 at3 ah1 ah2 ah3 ah4 ah5 ah6 aq1 aq2 aq3; obtain ⟨at1, at2, at3⟩ := Trav.tcells (Trav.blk_b W15.out g1.out); obtain ⟨ah1, ah2, ah3, ah4, ah5, ah6⟩ := Geo.cells6 (Trav.blk_b W15.out g3.out); obtain ⟨aq1, aq2, aq3⟩ := Trav.tcells (Trav.blk_b W15.out g4.out); first | (have FC := Lib.hid (Trav.blk_b hb15 FB.out); have m1 := n1; have m3 := n3; have m4 := n4; obtain ⟨y0, y1⟩ := Bound.zc FC.out; have fz0 := frozen_of_row w15 wz.heap.size 0 _ _ FC.out; have fz1 := frozen_of_row w15 wz.heap.size 1 _ _ FC.out) | (have FC := Lib.hid (Trav.blk_b hb15 (Trav.blk_new w13 (.cells #[.int .i64 0, .int .i64 0] 48))); have m1 := v1; have m3 := v3; have m4 := v4; obtain ⟨y0, y1⟩ := Bound.zc FC.out; have fz0 := frozen_of_row w15 w13.heap.size 0 _ _ FC.out; have fz1 := frozen_of_row w15 w13.heap.size 1 _ _ FC.out) | skip)
        | (go_at_call 20; (with_reducible refine (ZN.out (w13.alloc (.cells #[.int .i64 0, .int .i64 0] 48)).drew (tv.out.below (Buf.then_ W13.out (Trav.new_block (.cells #[.int .i64 0, .int .i64 0] 48)).drew))).mono ?_); rintro r w15 ⟨rfl, hb15⟩; have W15 : Hid (Below wz.heap.size wz w15) := Lib.hid (Buf.then_ (Buf.then_ W13.out (Trav.new_block (.cells #[.int .i64 0, .int .i64 0] 48)).drew) hb15); have v1 := World.new_ne w13 _ at1; have v3 := World.new_ne w13 _ ah1; have v4 := World.new_ne w13 _ aq1; clear at1 at2 at3 ah1 ah2 ah3 ah4 ah5 ah6 aq1 aq2 aq3; obtain ⟨at1, at2, at3⟩ := Trav.tcells (Trav.blk_b W15.out g1.out); obtain ⟨ah1, ah2, ah3, ah4, ah5, ah6⟩ := Geo.cells6 (Trav.blk_b W15.out g3.out); obtain ⟨aq1, aq2, aq3⟩ := Trav.tcells (Trav.blk_b W15.out g4.out); first | (have FC := Lib.hid (Trav.blk_b hb15 FB.out); have m1 := n1; have m3 := n3; have m4 := n4; obtain ⟨y0, y1⟩ := Bound.zc FC.out; have fz0 := frozen_of_row w15 wz.heap.size 0 _ _ FC.out; have fz1 := frozen_of_row w15 wz.heap.size 1 _ _ FC.out) | (have FC := Lib.hid (Trav.blk_b hb15 (Trav.blk_new w13 (.cells #[.int .i64 0, .int .i64 0] 48))); have m1 := v1; have m3 := v3; have m4 := v4; obtain ⟨y0, y1⟩ := Bound.zc FC.out; have fz0 := frozen_of_row w15 w13.heap.size 0 _ _ FC.out; have fz1 := frozen_of_row w15 w13.heap.size 1 _ _ FC.out) | skip)
        | (go_at_call 20; (with_reducible refine (ZN.out (w13.drew.alloc (.cells #[.int .i64 0, .int .i64 0] 48)) (tv.out.below (Buf.then_ W13.out ((Below.refl _ _).drew.alloc (Nat.le_refl _) (.cells #[.int .i64 0, .int .i64 0] 48))))).mono ?_); rintro r w15 ⟨rfl, hb15⟩; have W15 : Hid (Below wz.heap.size wz w15) := Lib.hid (Buf.then_ (Buf.then_ W13.out ((Below.refl _ _).drew.alloc (Nat.le_refl _) (.cells #[.int .i64 0, .int .i64 0] 48))) hb15); have v1 := World.new_ne w13 _ at1; have v3 := World.new_ne w13 _ ah1; have v4 := World.new_ne w13 _ aq1; clear at1 at2 at3 ah1 ah2 ah3 ah4 ah5 ah6 aq1 aq2 aq3; obtain ⟨at1, at2, at3⟩ := Trav.tcells (Trav.blk_b W15.out g1.out); obtain ⟨ah1, ah2, ah3, ah4, ah5, ah6⟩ := Geo.cells6 (Trav.blk_b W15.out g3.out); obtain ⟨aq1, aq2, aq3⟩ := Trav.tcells (Trav.blk_b W15.out g4.out); first | (have FC := Lib.hid (Trav.blk_b hb15 FB.out); have m1 := n1; have m3 := n3; have m4 := n4; obtain ⟨y0, y1⟩ := Bound.zc FC.out; have fz0 := frozen_of_row w15 wz.heap.size 0 _ _ FC.out; have fz1 := frozen_of_row w15 wz.heap.size 1 _ _ FC.out) | (have FC := Lib.hid (Trav.blk_b hb15 (Trav.blk_new w13 (.cells #[.int .i64 0, .int .i64 0] 48))); have m1 := v1; have m3 := v3; have m4 := v4; obtain ⟨y0, y1⟩ := Bound.zc FC.out; have fz0 := frozen_of_row w15 w13.heap.size 0 _ _ FC.out; have fz1 := frozen_of_row w15 w13.heap.size 1 _ _ FC.out) | skip)))
    all_goals go_wp2_with fail
    all_goals go_meet
    · have gP := Lib.hid (Trav.blk_new w15 (.cells #[.int .i64 (E - hq), .int .i64 (L - lq)] 48))
      have WC := Buf.then_ W15.out (Trav.new_block (.cells #[.int .i64 (E - hq), .int .i64 (L - lq)] 48))
      exact ⟨w15.heap.size, rfl, rfl, Lib.hid (by have h1 := L0.out.di.lt; have h2 := W15.out.size; omega), Lib.hid (Trav.blk_b WC g1.out), Lib.hid (Trav.blk_b WC g2.out), Lib.hid (Trav.blk_b WC g3.out), gP, Lib.hid (tv.out.below WC), Lib.hid (L0.out.below WC)⟩
    · have gP := Lib.hid (Bound.z2 FC.out (.int .i64 (E - hq)) (.int .i64 (L - lq)))
      have WC := (W15.out.setCell (p := ⟨w13.heap.size, 0, none⟩) W13.out.size (.int .i64 (E - hq))).setCell (p := ⟨w13.heap.size, 1, none⟩) W13.out.size (.int .i64 (L - lq))
      exact ⟨w13.heap.size, rfl, rfl, Lib.hid (by have h1 := L0.out.di.lt; have h2 := W13.out.size; omega), Lib.hid (Trav.blk_b WC g1.out), Lib.hid (Trav.blk_b WC g2.out), Lib.hid (Trav.blk_b WC g3.out), gP, Lib.hid (tv.out.below WC), Lib.hid (L0.out.below WC)⟩
    · have gP := Lib.hid (Bound.z2 FC.out (.int .i64 (E - hq)) (.int .i64 (L - lq)))
      have WC := (W15.out.setCell (p := ⟨wz.heap.size, 0, none⟩) (Nat.le_refl _) (.int .i64 (E - hq))).setCell (p := ⟨wz.heap.size, 1, none⟩) (Nat.le_refl _) (.int .i64 (L - lq))
      exact ⟨wz.heap.size, rfl, rfl, Lib.hid (by have h1 := L0.out.di.lt; omega), Lib.hid (Trav.blk_b WC g1.out), Lib.hid (Trav.blk_b WC g2.out), Lib.hid (Trav.blk_b WC g3.out), gP, Lib.hid (tv.out.below WC), Lib.hid (L0.out.below WC)⟩
  case rest =>
    obtain ⟨P, rfl, rfl, nP, g1, g2, g3, gP, tv, L0⟩ := hcut
    have nP' := nP.out
    obtain ⟨kt1, kt2, kt3⟩ := Trav.tcells g1.out
    obtain ⟨kb1, kb2, kb3, kb4, kb5, kb6⟩ := Geo.cells6 g2.out
    obtain ⟨kh1, kh2, kh3, kh4, kh5, kh6⟩ := Geo.cells6 g3.out
    go_wp2_with fail
    refine (BZ.out _ tv.out).mono ?_
    rintro e0 w16 ⟨rfl, hc⟩
    replace g3 := Lib.hid (Trav.blk_b hc g3.out)
    replace gP := Lib.hid (Trav.blk_b hc gP.out)
    replace L0 := Lib.hid (L0.out.below hc)
    clear hc
    clear kt1 kt2 kt3 kb1 kb2 kb3 kb4 kb5 kb6
    clear kh1 kh2 kh3 kh4 kh5 kh6 g1 g2 g4 tv BZ ZN ONE
    have gD := Lib.hid (Trav.blk_new w16 (.cells #[.int .i64 (E - hB), .int .i64 (L - lB)] 48))
    have hQ' := Trav.new_block (w := w16) (.cells #[.int .i64 (E - hB), .int .i64 (L - lB)] 48)
    have lt16 := L0.out.di.lt
    have nD : w16.heap.size ≠ w.heap.size := by omega
    replace g3 := Lib.hid (Trav.blk_b hQ' g3.out)
    replace gP := Lib.hid (Trav.blk_b hQ' gP.out)
    replace L0 := Lib.hid (L0.out.below hQ')
    clear hQ'
    obtain ⟨kh1, kh2, kh3, kh4, kh5, kh6⟩ := Geo.cells6 g3.out
    have sz1 : IntKind.i64.wrap (E - hq) = E - hq := IntWalk.i64_in _ (by omega)
    have sz2 : IntKind.i64.wrap (E - hq - 1) = E - hq - 1 := IntWalk.i64_in _ (by omega)
    have sz3 : IntKind.i64.wrap (L - lq) = L - lq := IntWalk.i64_in _ (by omega)
    have sz4 : IntKind.i64.wrap (L - lq + 1) = L - lq + 1 := IntWalk.i64_in _ (by omega)
    clear kh1 kh2 kh3 kh6
    go_wp2_with fail
    generalize w16.alloc (.cells #[.int .i64 (E - hB), .int .i64 (L - lB)] 48) = w17 at *
    go_region_held3 (fun w' => w'.cell? ⟨w4.heap.size + 1 + 1, 3, none⟩ = some (.int .i64 E) ∧ w'.cell? ⟨w4.heap.size + 1 + 1, 4, none⟩ = some (.int .i64 L))
      (first
        | (go_split_ands; ((with_reducible refine ⟨hl.cell ne3 ?_, hl.cell ne3 ?_⟩) <;> (with_reducible assumption)))
        | go_keep)
      ((first
        | (go_at_call 21; (with_reducible refine (Src.n_any _ L0.out.di (by omega) (by omega)).mono ?_); rintro r w18 ⟨⟨v, rfl, v0, v9⟩, hl⟩; have L1 := Lib.hid (L0.out.trans hl))
        | (go_at_call 21; (with_reducible refine (Src.n_any _ L0.out.drew.di (by omega) (by omega)).mono ?_); rintro r w18 ⟨⟨v, rfl, v0, v9⟩, hl⟩; have L1 := Lib.hid (L0.out.drew.trans hl))))
    rw [IntWalk.i64_in (E - v) (by omega)]
    replace g3 := Lib.hid (Trav.blk_alloc (hl.blk g3.out ne3) (.cells #[.int .i64 (E - hq - 1), .int .i64 (E - hq), .int .i64 (L - lq), .int .i64 (L - lq + 1), .int .i64 (E - v)] 3))
    replace gP := Lib.hid (Trav.blk_alloc (hl.blk gP.out nP') (.cells #[.int .i64 (E - hq - 1), .int .i64 (E - hq), .int .i64 (L - lq), .int .i64 (L - lq + 1), .int .i64 (E - v)] 3))
    replace gD := Lib.hid (Trav.blk_alloc (hl.blk gD.out nD) (.cells #[.int .i64 (E - hq - 1), .int .i64 (E - hq), .int .i64 (L - lq), .int .i64 (L - lq + 1), .int .i64 (E - v)] 3))
    have hW := Lib.hid (Buf.then_ L1.out.di.bel (Trav.new_block (.cells #[.int .i64 (E - hq - 1), .int .i64 (E - hq), .int .i64 (L - lq), .int .i64 (L - lq + 1), .int .i64 (E - v)] 3)))
    have IN : Hid (Src.Ints (w18.alloc (.cells #[.int .i64 (E - hq - 1), .int .i64 (E - hq), .int .i64 (L - lq), .int .i64 (L - lq + 1), .int .i64 (E - v)] 3)) w18.heap.size [E - hq - 1, E - hq, L - lq, L - lq + 1, E - v]) := Lib.hid (by simpa using Src.ints_alloc w18 [E - hq - 1, E - hq, L - lq, L - lq + 1, E - v] 3)
    have OB : Hid (∀ k, k < 5 → -2199023255552 ≤ [E - hq - 1, E - hq, L - lq, L - lq + 1, E - v].getD k 0 ∧ [E - hq - 1, E - hq, L - lq, L - lq + 1, E - v].getD k 0 ≤ 10000) := Lib.hid fun k hk => by
      rcases (by omega : k = 0 ∨ k = 1 ∨ k = 2 ∨ k = 3 ∨ k = 4) with rfl | rfl | rfl | rfl | rfl <;> simp <;> omega
    obtain ⟨kh1, kh2, kh3, kh4', kh5', kh6⟩ := Geo.cells6 g3.out
    obtain ⟨kP1, kP2⟩ := Bound.zc gP.out
    obtain ⟨kD1, kD2⟩ := Bound.zc gD.out
    clear kh1 kh2 kh3 kh6 kh4 kh5 g3 gP gD L1 L0 hl sz1 sz2 sz3 sz4
    go_wp2_with fail
    generalize w18.alloc (.cells #[.int .i64 (E - hq - 1), .int .i64 (E - hq), .int .i64 (L - lq), .int .i64 (L - lq + 1), .int .i64 (E - v)] 3) = w19 at *
    go_loop [88] (fun i => ∃ k : Nat, k ≤ 5 ∧ i = .int .i64 k) (fun i => (5 - intOf i).toNat)
    case atStart => exact ⟨0, by omega, rfl⟩
    case round =>
      obtain ⟨k, hk, rfl⟩ := hrel
      by_cases hlt : k < 5
      · have hlt' : (k : Int) < 5 := by omega
        have ck := IN.out k (by simpa using hlt)
        obtain ⟨o0, o9⟩ := OB.out k hlt
        generalize [E - hq - 1, E - hq, L - lq, L - lq + 1, E - v].getD k 0 = o at ck o0 o9
        by_cases c1 : o + lq ≤ L
        · by_cases c2 : E ≤ o + hq
          · have c3 : E - hq ≤ o := by omega
            have c4 : o ≤ L - lq := by omega
            have c5 : ¬ (o < E - hB) := by omega
            have c6 : ¬ (L - lB < o) := by omega
            go_wp2
            go_round
            case rel => exact ⟨k + 1, by omega, by go_num⟩
            case measure => simp [intOf]; omega
          · have c3 : ¬ (E - hq ≤ o) := by omega
            go_wp2
            go_round
            case rel => exact ⟨k + 1, by omega, by go_num⟩
            case measure => simp [intOf]; omega
        · have c4 : ¬ (o ≤ L - lq) := by omega
          have c3 : E - hq ≤ o := by omega
          go_wp2
          go_round
          case rel => exact ⟨k + 1, by omega, by go_num⟩
          case measure => simp [intOf]; omega
      · obtain rfl : k = 5 := by omega
        go_wp2_with (go_at_call 18; refine (Bound.awake_any _).mono ?_; rintro e0 w20 ⟨rfl, hc⟩; replace hW := Lib.hid (Buf.then_ hW.out hc); clear hc)
        go_ret
        exact ⟨rfl, hW.out⟩
end Laws
end Go.Proofs.Ytmjfafphfkadgaa
