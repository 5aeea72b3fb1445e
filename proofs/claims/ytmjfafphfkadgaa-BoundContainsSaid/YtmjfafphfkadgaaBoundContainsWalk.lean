/- The walk of BoundContains. -/
import Derived.Test.YtmjfafphfkadgaaBoundC
import Derived.Test.YtmjfafphfkadgaaBoundD
import Derived.Test.YtmjfafphfkadgaaPlaceC
set_option linter.unusedVariables false
namespace Go.Proofs.Ytmjfafphfkadgaa
open Go.RowKit
namespace Laws
set_option maxHeartbeats 8000000 in
set_option maxRecDepth 100000 in
theorem boundContains_walk (a0 : Option Addr) (len0 cap0 : Nat) (z0 : List Int) (w : World) (w0 : Buf.IsRow .i64 w a0 len0 cap0 z0) :
    Calls Try.prog 3 #[.slice a0 len0 cap0] w fun e w' => e = .returned (.bool true) ∧ Below w.heap.size w w' := by
  go_enter Try.func3, Try.ntmps3
  go_wp2_with fail
  refine (Src.new_any a0 len0 cap0 z0 w w0).mono ?_
  rintro e0 wA ⟨rfl, m, hd⟩
  have L0 := Lib.hid (Src.Left.refl hd)
  clear hd w0
  go_wp2_with fail
  refine (Trav.table_any L0.out.di).mono ?_
  rintro e0 w2 ⟨⟨s, b1, b2, n, c1, c2, lo, hi, rfl, tv0, re, s9, n9, lb1, lb2⟩, hl⟩
  have ltA := L0.out.di.lt
  have nb1 : b1 ≠ w.heap.size := by omega
  have nb2 : b2 ≠ w.heap.size := by omega
  replace L0 := Lib.hid (L0.out.trans hl)
  have tv : Hid (Bound.Wide w2 s b1 b2 n lo hi) := Lib.hid (Bound.Wide.mk tv0 re)
  clear hl ltA tv0 re lb1 lb2 s9 n9
  go_wp2_with fail
  refine (Src.box_any 60 40 L0.out.di (by omega) (by omega) (by omega) (by omega)).mono ?_
  rintro e0 w3 ⟨⟨a, b, c, d, e, f, rfl, vb, sd, se, sf, a0', a1', b0', b1', c0', c1'⟩, hl⟩
  replace tv := Lib.hid (Bound.Wide.mk (tv.out.tv.left hl nb1 nb2) tv.out.re)
  replace L0 := Lib.hid (L0.out.trans hl)
  clear hl
  go_wp2_with fail
  refine (Src.place_any 60 L0.out.di (by omega) (by omega)).mono ?_
  rintro e0 w4 ⟨⟨x, y, z, rfl, x0, x1, y0, y1, z1, z2⟩, hl⟩
  replace tv := Lib.hid (Bound.Wide.mk (tv.out.tv.left hl nb1 nb2) tv.out.re)
  replace L0 := Lib.hid (L0.out.trans hl)
  clear hl
  have lt4 := L0.out.di.lt
  have g1 := Lib.hid (Trav.blk3a w4 (.cells #[.int .i64 s, .slice (some ⟨b1, 0, none⟩) n c1, .slice (some ⟨b2, 0, none⟩) n c2] 26) (.cells #[.int .i64 a, .int .i64 b, .int .i64 c, .int .i64 d, .int .i64 e, .int .i64 f] 31) (.cells #[.int .i64 x, .int .i64 y, .int .i64 z] 29))
  have g2 := Lib.hid (Trav.blk3b w4 (.cells #[.int .i64 s, .slice (some ⟨b1, 0, none⟩) n c1, .slice (some ⟨b2, 0, none⟩) n c2] 26) (.cells #[.int .i64 a, .int .i64 b, .int .i64 c, .int .i64 d, .int .i64 e, .int .i64 f] 31) (.cells #[.int .i64 x, .int .i64 y, .int .i64 z] 29))
  have g3 := Lib.hid (Trav.blk3c w4 (.cells #[.int .i64 s, .slice (some ⟨b1, 0, none⟩) n c1, .slice (some ⟨b2, 0, none⟩) n c2] 26) (.cells #[.int .i64 a, .int .i64 b, .int .i64 c, .int .i64 d, .int .i64 e, .int .i64 f] 31) (.cells #[.int .i64 x, .int .i64 y, .int .i64 z] 29))
  replace tv := Lib.hid (tv.out.below (Trav.bel3 w4 (.cells #[.int .i64 s, .slice (some ⟨b1, 0, none⟩) n c1, .slice (some ⟨b2, 0, none⟩) n c2] 26) (.cells #[.int .i64 a, .int .i64 b, .int .i64 c, .int .i64 d, .int .i64 e, .int .i64 f] 31) (.cells #[.int .i64 x, .int .i64 y, .int .i64 z] 29)))
  replace L0 := Lib.hid (L0.out.below (Trav.bel3 w4 (.cells #[.int .i64 s, .slice (some ⟨b1, 0, none⟩) n c1, .slice (some ⟨b2, 0, none⟩) n c2] 26) (.cells #[.int .i64 a, .int .i64 b, .int .i64 c, .int .i64 d, .int .i64 e, .int .i64 f] 31) (.cells #[.int .i64 x, .int .i64 y, .int .i64 z] 29)))
  have ne1 : w4.heap.size ≠ w.heap.size := by omega
  have ne2 : w4.heap.size + 1 ≠ w.heap.size := by omega
  have ne3 : w4.heap.size + 1 + 1 ≠ w.heap.size := by omega
  have vp : Geo.PV x y z := ⟨by omega, by omega, by omega, by omega, by omega, by omega⟩
  have far := Bound.far_small (x := x) (y := y) (z := z) vb (by omega) (by omega) (by omega) (by omega) (by omega) (by omega) (by omega) (by omega) (by omega) x0 x1 y0 y1 (by omega) z2
  obtain ⟨m0, m1, _⟩ := Bound.near_far vb vp
  have BI := Lib.hid fun w h => Bound.box_int s b1 b2 n c1 c2 lo hi a b c d e f x y z w h vb vp far
  clear sd se sf a0' a1' b0' b1' c0' c1' x0 x1 y0 y1 z1 z2 lt4
  go_wp2_with fail
  obtain ⟨w5, hw5⟩ : ∃ w5, w5 = ((w4.alloc (.cells #[.int .i64 s, .slice (some ⟨b1, 0, none⟩) n c1, .slice (some ⟨b2, 0, none⟩) n c2] 26)).alloc (.cells #[.int .i64 a, .int .i64 b, .int .i64 c, .int .i64 d, .int .i64 e, .int .i64 f] 31)).alloc (.cells #[.int .i64 x, .int .i64 y, .int .i64 z] 29) := ⟨_, rfl⟩
  rw [← hw5] at g1 g2 g3 tv L0 ⊢
  clear hw5
  obtain ⟨kt1, kt2, kt3⟩ := Trav.tcells g1.out
  obtain ⟨kb1, kb2, kb3, kb4, kb5, kb6⟩ := Geo.cells6 g2.out
  obtain ⟨kp1, kp2, kp3⟩ := Trav.tcells g3.out
  go_wp2_with fail
  refine (BI.out _ tv.out).mono ?_
  rintro e0 w6 ⟨rfl, hc⟩
  replace g1 := Lib.hid (Trav.blk_b hc g1.out)
  replace g2 := Lib.hid (Trav.blk_b hc g2.out)
  replace g3 := Lib.hid (Trav.blk_b hc g3.out)
  replace tv := Lib.hid (tv.out.below hc)
  replace L0 := Lib.hid (L0.out.below hc)
  clear hc
  clear kt1 kt2 kt3 kb1 kb2 kb3 kb4 kb5 kb6 kp1 kp2 kp3
  have bd0 := (tv.out.bd m0 (by omega)).1
  have mo0 := tv.out.mono m0 m1 far
  have bd1 := tv.out.bd (m := Geo.far3 a b c d e f x y z) (by omega) far
  have lo_hi : Bound.LO s lo (Geo.near3 a b c d e f x y z) ≤ Bound.HI s hi (Geo.far3 a b c d e f x y z) := by omega
  have PT : Hid (∀ p q r, a ≤ p → p ≤ d → b ≤ q → q ≤ e → c ≤ r → r ≤ f → Geo.PV p q r ∧ Geo.sq3 p q r x y z ≤ 160000 ∧ 0 ≤ Geo.sq3 p q r x y z ∧ Bound.LO s lo (Geo.near3 a b c d e f x y z) ≤ Bound.LO s lo (Geo.sq3 p q r x y z) ∧ Bound.HI s hi (Geo.sq3 p q r x y z) ≤ Bound.HI s hi (Geo.far3 a b c d e f x y z)) := Lib.hid fun p q r k1 k2 k3 k4 k5 k6 => by
    have nl := Geo.near_le (x := x) (y := y) (z := z) k1 k2 k3 k4 k5 k6
    have fg := Geo.far_ge (x := x) (y := y) (z := z) k1 k2 k3 k4 k5 k6
    rw [Bound.sq_comm x y z p q r] at nl fg
    have i1 := tv.out.mono m0 nl (by omega)
    have i2 := tv.out.mono (by omega) fg far
    exact ⟨Bound.pt_of vb k1 k2 k3 k4 k5 k6, by omega, by omega, i1.1, i2.2⟩
  have HV : Hid (∀ u1 u2 u3 u4 u5 u6, Geo.BV u1 u2 u3 u4 u5 u6 → (a ≤ u1 ∧ u4 ≤ d ∧ b ≤ u2 ∧ u5 ≤ e ∧ c ≤ u3 ∧ u6 ≤ f) → Geo.far3 u1 u2 u3 u4 u5 u6 x y z ≤ 160000 ∧ Bound.LO s lo (Geo.near3 a b c d e f x y z) ≤ Bound.LO s lo (Geo.near3 u1 u2 u3 u4 u5 u6 x y z) ∧ Bound.HI s hi (Geo.far3 u1 u2 u3 u4 u5 u6 x y z) ≤ Bound.HI s hi (Geo.far3 a b c d e f x y z)) := Lib.hid fun u1 u2 u3 u4 u5 u6 hu hw => by
    have nm := Geo.near_mono (x := x) (y := y) (z := z) hu hw
    have fm := Geo.far_mono (x := x) (y := y) (z := z) hu hw
    obtain ⟨n0, n1, _⟩ := Bound.near_far hu vp
    have i1 := tv.out.mono m0 nm (by omega)
    have i2 := tv.out.mono (by omega) fm far
    exact ⟨by omega, i1.1, i2.2⟩
  clear bd0 mo0 bd1 m0 m1 far BI
  generalize Bound.LO s lo (Geo.near3 a b c d e f x y z) = lo0 at *
  generalize Bound.HI s hi (Geo.far3 a b c d e f x y z) = hi0 at *
  go_wp2_with fail
  go_loopw [10] (fun kv wr => ∃ k : Nat, k ≤ 4 ∧ kv = .int .i64 k ∧ Hid (wr.heap[w4.heap.size]? = some (.cells #[.int .i64 s, .slice (some ⟨b1, 0, none⟩) n c1, .slice (some ⟨b2, 0, none⟩) n c2] 26 (0, 0))) ∧ Hid (wr.heap[w4.heap.size + 1]? = some (.cells #[.int .i64 a, .int .i64 b, .int .i64 c, .int .i64 d, .int .i64 e, .int .i64 f] 31 (0, 0))) ∧ Hid (wr.heap[w4.heap.size + 1 + 1]? = some (.cells #[.int .i64 x, .int .i64 y, .int .i64 z] 29 (0, 0))) ∧ Hid (Bound.Wide wr s b1 b2 n lo hi) ∧ Hid (Src.Left w wA wr w.heap.size a0 m cap0 z0)) (fun kv _ => 4 - (intOf kv).toNat)
  case atStart => exact ⟨0, by omega, rfl, g1, g2, g3, tv, L0⟩
  case round =>
    clear g1 g2 g3 tv L0
    obtain ⟨k, hk, rfl, g1, g2, g3, tv, L0⟩ := hrel
    by_cases hlt : k < 4
    · have hlt' : (k : Int) < 4 := by omega
      obtain ⟨kb1, kb2, kb3, kb4, kb5, kb6⟩ := Geo.cells6 g2.out
      go_wp2_with fail
      refine (Src.point_any a b c d e f vb L0.out.di).mono ?_
      rintro e0 w7 ⟨⟨p, q, r, rfl, k1, k2, k3, k4, k5, k6⟩, hl⟩
      clear kb1 kb2 kb3 kb4 kb5 kb6
      replace g1 := Lib.hid (hl.blk g1.out ne1)
      replace g2 := Lib.hid (hl.blk g2.out ne2)
      replace g3 := Lib.hid (hl.blk g3.out ne3)
      replace tv := Lib.hid (Bound.Wide.mk (tv.out.tv.left hl nb1 nb2) tv.out.re)
      replace L0 := Lib.hid (L0.out.trans hl)
      clear hl
      obtain ⟨vq, q9, q0, ql, qh⟩ := PT.out p q r k1 k2 k3 k4 k5 k6
      have g4 := Lib.hid (Trav.blk_new w7 (.cells #[.int .i64 p, .int .i64 q, .int .i64 r] 29))
      have hQ := Trav.new_block (w := w7) (.cells #[.int .i64 p, .int .i64 q, .int .i64 r] 29)
      replace g1 := Lib.hid (Trav.blk_b hQ g1.out)
      replace g2 := Lib.hid (Trav.blk_b hQ g2.out)
      replace g3 := Lib.hid (Trav.blk_b hQ g3.out)
      replace tv := Lib.hid (tv.out.below hQ)
      replace L0 := Lib.hid (L0.out.below hQ)
      clear hQ
      have BJ := fun w h => Bound.box_int s b1 b2 n c1 c2 lo hi p q r p q r x y z w h (Bound.bv_one vq) vp (by rw [Bound.far_one]; exact q9)
      rw [Bound.near_one, Bound.far_one] at BJ
      replace BJ := Lib.hid BJ
      have PJ := Lib.hid fun w h => Bound.pt_int s b1 b2 n c1 c2 lo hi p q r x y z w h vq vp q9
      have ONE := Lib.hid fun w => Bound.one_any p q r w
      clear k1 k2 k3 k4 k5 k6 q9 q0
      generalize Bound.LO s lo (Geo.sq3 p q r x y z) = lq at *
      generalize Bound.HI s hi (Geo.sq3 p q r x y z) = hq at *
      go_wp2_with fail
      generalize w7.alloc (.cells #[.int .i64 p, .int .i64 q, .int .i64 r] 29) = w8 at *
      refine Buf.region_calm w8 (by kernel_rfl) (by kernel_rfl) (Below.refl _ _) ?_
      repeat (go_big_quiet_step ((intro hC; first
        | (go_at_call 15; (with_reducible exact Buf.calm hC (ONE.out _)))
        | (go_at_call 13; (with_reducible exact Buf.calm hC (BJ.out _ (tv.out.below hC))))
        | rfl
        | (simp only [(Bound.tc (Geo.blk_b hC g1.out)).1, (Bound.tc (Geo.blk_b hC g1.out)).2.1, (Bound.tc (Geo.blk_b hC g1.out)).2.2, Result.andThen_ok]; first | exact ⟨trivial, rfl⟩ | rfl)
        | (simp only [(Bound.tc (Geo.blk_b hC g3.out)).1, (Bound.tc (Geo.blk_b hC g3.out)).2.1, (Bound.tc (Geo.blk_b hC g3.out)).2.2, Result.andThen_ok]; first | exact ⟨trivial, rfl⟩ | rfl)
        | (simp only [(Bound.tc (Geo.blk_b hC g4.out)).1, (Bound.tc (Geo.blk_b hC g4.out)).2.1, (Bound.tc (Geo.blk_b hC g4.out)).2.2, Result.andThen_ok]; first | exact ⟨trivial, rfl⟩ | rfl))))
      refine wpQuiet_nil ?_
      intro w9 hc
      replace g1 := Lib.hid (Trav.blk_b hc g1.out)
      replace g2 := Lib.hid (Trav.blk_b hc g2.out)
      replace g3 := Lib.hid (Trav.blk_b hc g3.out)
      replace g4 := Lib.hid (Trav.blk_b hc g4.out)
      replace tv := Lib.hid (tv.out.below hc)
      replace L0 := Lib.hid (L0.out.below hc)
      clear hc
      obtain ⟨kt1, kt2, kt3⟩ := Trav.tcells g1.out
      obtain ⟨kp1, kp2, kp3⟩ := Trav.tcells g3.out
      obtain ⟨kq1, kq2, kq3⟩ := Trav.tcells g4.out
      go_wp2_with fail
      refine (PJ.out _ tv.out).mono ?_
      rintro e0 w10 ⟨rfl, hc⟩
      replace g1 := Lib.hid (Trav.blk_b hc g1.out)
      replace g2 := Lib.hid (Trav.blk_b hc g2.out)
      replace g3 := Lib.hid (Trav.blk_b hc g3.out)
      replace tv := Lib.hid (tv.out.below hc)
      replace L0 := Lib.hid (L0.out.below hc)
      clear hc
      clear kt1 kt2 kt3 kp1 kp2 kp3 kq1 kq2 kq3 g4 PJ BJ ONE
      go_wp2
      go_roundw
      case rel => exact ⟨k + 1, by omega, by go_num, g1, g2, g3, tv, L0⟩
      case measure => simp [intOf]; omega
    · obtain rfl : k = 4 := by omega
      clear hlt
      have hW := Lib.hid L0.out.di.bel
      by_cases h2 : 2 ≤ Geo.pts a b c d e f
      · obtain ⟨u1, u2, u3, u4, u5, u6, v1, v2, v3, v4, v5, v6, HS, hv⟩ := Geo.split_two a b c d e f vb h2
        have vu := hv.bx
        have vv := hv.bY
        obtain ⟨fu, lu, hu⟩ := HV.out u1 u2 u3 u4 u5 u6 vu hv.wx
        obtain ⟨fv, lv, hh⟩ := HV.out v1 v2 v3 v4 v5 v6 vv hv.wy
        have BU := Lib.hid fun w h => Bound.box_int s b1 b2 n c1 c2 lo hi u1 u2 u3 u4 u5 u6 x y z w h vu vp fu
        have BV := Lib.hid fun w h => Bound.box_int s b1 b2 n c1 c2 lo hi v1 v2 v3 v4 v5 v6 x y z w h vv vp fv
        replace HS := Lib.hid HS
        clear hv vu vv fu fv PT HV vb vp L0
        generalize Bound.LO s lo (Geo.near3 u1 u2 u3 u4 u5 u6 x y z) = lU at *
        generalize Bound.HI s hi (Geo.far3 u1 u2 u3 u4 u5 u6 x y z) = hU at *
        generalize Bound.LO s lo (Geo.near3 v1 v2 v3 v4 v5 v6 x y z) = lV at *
        generalize Bound.HI s hi (Geo.far3 v1 v2 v3 v4 v5 v6 x y z) = hV at *
        obtain ⟨kb1, kb2, kb3, kb4, kb5, kb6⟩ := Geo.cells6 g2.out
        go_wp2_with fail
        with_reducible refine (HS.out _).mono ?_
        rintro e0 w11 ⟨rfl, hc⟩
        clear kb1 kb2 kb3 kb4 kb5 kb6
        replace g1 := Lib.hid (Trav.blk_b hc g1.out)
        replace g2 := Lib.hid (Trav.blk_b hc g2.out)
        replace g3 := Lib.hid (Trav.blk_b hc g3.out)
        replace tv := Lib.hid (tv.out.below hc)
        replace hW := Lib.hid (Buf.then_ hW.out hc)
        clear hc
        have g5 := Lib.hid (Geo.blk_alloc (Geo.blk_new w11 (.cells #[.int .i64 u1, .int .i64 u2, .int .i64 u3, .int .i64 u4, .int .i64 u5, .int .i64 u6] 31)) (.cells #[.int .i64 v1, .int .i64 v2, .int .i64 v3, .int .i64 v4, .int .i64 v5, .int .i64 v6] 31))
        have g6 := Lib.hid (Geo.blk_new1 w11 (.cells #[.int .i64 u1, .int .i64 u2, .int .i64 u3, .int .i64 u4, .int .i64 u5, .int .i64 u6] 31) (.cells #[.int .i64 v1, .int .i64 v2, .int .i64 v3, .int .i64 v4, .int .i64 v5, .int .i64 v6] 31))
        have hD := Trav.bel2 (w := w11) (.cells #[.int .i64 u1, .int .i64 u2, .int .i64 u3, .int .i64 u4, .int .i64 u5, .int .i64 u6] 31) (.cells #[.int .i64 v1, .int .i64 v2, .int .i64 v3, .int .i64 v4, .int .i64 v5, .int .i64 v6] 31)
        replace g1 := Lib.hid (Trav.blk_b hD g1.out)
        replace g2 := Lib.hid (Trav.blk_b hD g2.out)
        replace g3 := Lib.hid (Trav.blk_b hD g3.out)
        replace tv := Lib.hid (tv.out.below hD)
        replace hW := Lib.hid (Buf.then_ hW.out hD)
        clear hD
        obtain ⟨kt1, kt2, kt3⟩ := Trav.tcells g1.out
        obtain ⟨kb1, kb2, kb3, kb4, kb5, kb6⟩ := Geo.cells6 g5.out
        obtain ⟨kp1, kp2, kp3⟩ := Trav.tcells g3.out
        go_wp2_with fail
        generalize (w11.alloc (.cells #[.int .i64 u1, .int .i64 u2, .int .i64 u3, .int .i64 u4, .int .i64 u5, .int .i64 u6] 31)).alloc (.cells #[.int .i64 v1, .int .i64 v2, .int .i64 v3, .int .i64 v4, .int .i64 v5, .int .i64 v6] 31) = w12 at *
        refine (BU.out _ tv.out).mono ?_
        rintro e0 w13 ⟨rfl, hc⟩
        clear kt1 kt2 kt3 kb1 kb2 kb3 kb4 kb5 kb6 kp1 kp2 kp3
        replace g1 := Lib.hid (Trav.blk_b hc g1.out)
        replace g3 := Lib.hid (Trav.blk_b hc g3.out)
        replace g6 := Lib.hid (Trav.blk_b hc g6.out)
        replace tv := Lib.hid (tv.out.below hc)
        replace hW := Lib.hid (Buf.then_ hW.out hc)
        clear hc
        obtain ⟨kt1, kt2, kt3⟩ := Trav.tcells g1.out
        obtain ⟨kb1, kb2, kb3, kb4, kb5, kb6⟩ := Geo.cells6 g6.out
        obtain ⟨kp1, kp2, kp3⟩ := Trav.tcells g3.out
        go_wp2_with fail
        refine (BV.out _ tv.out).mono ?_
        rintro e0 w14 ⟨rfl, hc⟩
        clear kt1 kt2 kt3 kb1 kb2 kb3 kb4 kb5 kb6 kp1 kp2 kp3
        replace hW := Lib.hid (Buf.then_ hW.out hc)
        clear hc g1 g2 g3 g5 g6 tv BU BV HS
        go_wp2_with (go_at_call 18; refine (Bound.awake_any _).mono ?_; rintro e0 w15 ⟨rfl, hc⟩; replace hW := Lib.hid (Buf.then_ hW.out hc); clear hc)
        go_ret
        exact ⟨rfl, hW.out⟩
      · obtain ⟨rfl, rfl, rfl⟩ := Geo.pts_one vb (by omega)
        have HS := Lib.hid fun w => Geo.split_no a b c vb w
        clear PT HV h2 vp L0
        obtain ⟨kb1, kb2, kb3, kb4, kb5, kb6⟩ := Geo.cells6 g2.out
        go_wp2_with fail
        with_reducible refine (HS.out _).mono ?_
        rintro e0 w11 ⟨rfl, hc⟩
        clear kb1 kb2 kb3 kb4 kb5 kb6
        replace hW := Lib.hid (Buf.then_ (Buf.then_ hW.out hc) (Trav.bel2 (.cells #[.int .i64 0, .int .i64 0, .int .i64 0, .int .i64 0, .int .i64 0, .int .i64 0] 31) (.cells #[.int .i64 0, .int .i64 0, .int .i64 0, .int .i64 0, .int .i64 0, .int .i64 0] 31)))
        clear hc
        go_wp2_with fail
        refine (Bound.awake_any _).mono ?_
        rintro e0 w15 ⟨rfl, hc⟩
        replace hW := Lib.hid (Buf.then_ hW.out hc)
        clear hc
        go_wp2
        go_ret
        exact ⟨rfl, hW.out⟩
end Laws
end Go.Proofs.Ytmjfafphfkadgaa
