/- The walk of GeometrySplits. -/
import Derived.Test.YthnjibbmacejiaaPlaceC
import Derived.Test.YthnjibbmacejiaaGeoG
import Derived.Test.YthnjibbmacejiaaGeoQ
namespace Go.Proofs.Ythnjibbmacejiaa
open Go.RowKit
namespace Laws
set_option maxHeartbeats 8000000 in
set_option maxRecDepth 100000 in
theorem geometrySplits_walk (a0 : Option Addr) (len0 cap0 : Nat) (z0 : List Int) (w : World) (w0 : Buf.IsRow .i64 w a0 len0 cap0 z0) :
    Calls Try.prog 4 #[.slice a0 len0 cap0] w fun e w' => e = .returned (.bool true) ∧ Below w.heap.size w w' := by
  go_enter Try.func4, Try.ntmps4
  go_wp2_with fail
  refine (Src.new_any a0 len0 cap0 z0 w w0).mono ?_
  rintro e0 wA ⟨rfl, n, hd⟩
  have L0 := Lib.hid (Src.Left.refl hd)
  clear hd w0
  go_wp2_with fail
  refine (Src.box_any _ _ L0.out.di (by omega) (by omega) (by omega) (by omega)).mono ?_
  rintro e0 w1 ⟨⟨a, b, c, d, e, f, rfl, vb, _, _, _, _, _, _, _, _, _⟩, hl⟩
  replace L0 := Lib.hid (L0.out.trans hl)
  clear hl
  go_wp2_with fail
  refine (Src.position_any _ L0.out.di (by omega) (by omega)).mono ?_
  rintro e0 w2 ⟨⟨p, q, r, rfl, vp⟩, hl⟩
  replace L0 := Lib.hid (L0.out.trans hl)
  clear hl
  have lt2 := L0.out.di.lt
  have g1 := Lib.hid (Geo.blk_alloc (Geo.blk_new w2 (.cells #[.int .i64 a, .int .i64 b, .int .i64 c, .int .i64 d, .int .i64 e, .int .i64 f] 28)) (.cells #[.int .i64 p, .int .i64 q, .int .i64 r] 26))
  have g2 := Lib.hid (Geo.blk_new1 w2 (.cells #[.int .i64 a, .int .i64 b, .int .i64 c, .int .i64 d, .int .i64 e, .int .i64 f] 28) (.cells #[.int .i64 p, .int .i64 q, .int .i64 r] 26))
  replace L0 := Lib.hid ((L0.out.alloc (.cells #[.int .i64 a, .int .i64 b, .int .i64 c, .int .i64 d, .int .i64 e, .int .i64 f] 28)).alloc (.cells #[.int .i64 p, .int .i64 q, .int .i64 r] 26))
  have hpb := Geo.pts_rng vb
  have PB := Lib.hid (Geo.points_yes a b c d e f vb)
  go_wp2_with fail
  generalize (w2.alloc (.cells #[.int .i64 a, .int .i64 b, .int .i64 c, .int .i64 d, .int .i64 e, .int .i64 f] 28)).alloc (.cells #[.int .i64 p, .int .i64 q, .int .i64 r] 26) = w3 at *
  obtain ⟨i1, i2, i3, i4, i5, i6⟩ := Geo.cells6 g1.out
  by_cases h2 : 2 ≤ Geo.pts a b c d e f
  · obtain ⟨x1, x2, x3, x4, x5, x6, y1, y2, y3, y4, y5, y6, HS, hv⟩ := Geo.split_two a b c d e f vb h2
    have vx := hv.bx
    have vy := hv.bY
    have wx := hv.wx
    have wy := hv.wy
    have hcen := hv.cen
    have hnum := hv.num
    have hhull := hv.hull
    have hpart := Lib.hid hv.part
    clear hv
    replace HS := Lib.hid HS
    go_wp2_with fail
    with_reducible refine (HS.out _).mono ?_
    rintro e0 w4 ⟨rfl, hc⟩
    have lt4 : w.heap.size < w4.heap.size := by have := hc.size; have := (Array.getElem?_eq_some_iff.1 (Geo.blk_b hc g2.out)).1; omega
    replace g1 := Lib.hid (Geo.blk_alloc (Geo.blk_alloc (Geo.blk_b hc g1.out) (.cells #[.int .i64 x1, .int .i64 x2, .int .i64 x3, .int .i64 x4, .int .i64 x5, .int .i64 x6] 28)) (.cells #[.int .i64 y1, .int .i64 y2, .int .i64 y3, .int .i64 y4, .int .i64 y5, .int .i64 y6] 28))
    replace g2 := Lib.hid (Geo.blk_alloc (Geo.blk_alloc (Geo.blk_b hc g2.out) (.cells #[.int .i64 x1, .int .i64 x2, .int .i64 x3, .int .i64 x4, .int .i64 x5, .int .i64 x6] 28)) (.cells #[.int .i64 y1, .int .i64 y2, .int .i64 y3, .int .i64 y4, .int .i64 y5, .int .i64 y6] 28))
    have g3 := Lib.hid (Geo.blk_alloc (Geo.blk_new w4 (.cells #[.int .i64 x1, .int .i64 x2, .int .i64 x3, .int .i64 x4, .int .i64 x5, .int .i64 x6] 28)) (.cells #[.int .i64 y1, .int .i64 y2, .int .i64 y3, .int .i64 y4, .int .i64 y5, .int .i64 y6] 28))
    have g4 := Lib.hid (Geo.blk_new1 w4 (.cells #[.int .i64 x1, .int .i64 x2, .int .i64 x3, .int .i64 x4, .int .i64 x5, .int .i64 x6] 28) (.cells #[.int .i64 y1, .int .i64 y2, .int .i64 y3, .int .i64 y4, .int .i64 y5, .int .i64 y6] 28))
    replace L0 := Lib.hid (((L0.out.below hc).alloc (.cells #[.int .i64 x1, .int .i64 x2, .int .i64 x3, .int .i64 x4, .int .i64 x5, .int .i64 x6] 28)).alloc (.cells #[.int .i64 y1, .int .i64 y2, .int .i64 y3, .int .i64 y4, .int .i64 y5, .int .i64 y6] 28))
    have ne1 : w2.heap.size ≠ w.heap.size := by omega
    have ne2 : w2.heap.size + 1 ≠ w.heap.size := by omega
    have ne3 : w4.heap.size ≠ w.heap.size := by omega
    have ne4 : w4.heap.size + 1 ≠ w.heap.size := by omega
    clear hc i1 i2 i3 i4 i5 i6 lt2 lt4
    have PX := Lib.hid (Geo.points_yes x1 x2 x3 x4 x5 x6 vx)
    have PY := Lib.hid (Geo.points_yes y1 y2 y3 y4 y5 y6 vy)
    have WX := Lib.hid (Geo.within_yes x1 x2 x3 x4 x5 x6 a b c d e f vx vb wx)
    have WY := Lib.hid (Geo.within_yes y1 y2 y3 y4 y5 y6 a b c d e f vy vb wy)
    have NX := Lib.hid (Geo.near_yes x1 x2 x3 x4 x5 x6 p q r vx vp)
    have NY := Lib.hid (Geo.near_yes y1 y2 y3 y4 y5 y6 p q r vy vp)
    have NB := Lib.hid (Geo.near_yes a b c d e f p q r vb vp)
    have FX := Lib.hid (Geo.far_yes x1 x2 x3 x4 x5 x6 p q r vx vp)
    have FY := Lib.hid (Geo.far_yes y1 y2 y3 y4 y5 y6 p q r vy vp)
    have FB := Lib.hid (Geo.far_yes a b c d e f p q r vb vp)
    have n1 := Geo.near_mono (x := p) (y := q) (z := r) vx wx
    have n2 := Geo.near_mono (x := p) (y := q) (z := r) vy wy
    have f1 := Geo.far_mono (x := p) (y := q) (z := r) vx wx
    have f2 := Geo.far_mono (x := p) (y := q) (z := r) vy wy
    have CEN := Lib.hid (Geo.center_yes a b c d e f vb)
    have HXY := Geo.hull_yes x1 x2 x3 x4 x5 x6 y1 y2 y3 y4 y5 y6 vx vy
    obtain ⟨u1, u2, u3, u4, u5, u6⟩ := hhull
    rw [u1, u2, u3, u4, u5, u6] at HXY
    replace HXY := Lib.hid HXY
    have vm : Geo.PV (a + (d - a) / 2) (b + (e - b) / 2) (c + (f - c) / 2) := by
      have q1 := vx.lo
      have q2 := vx.hi
      obtain ⟨_, _, _, _, _, _⟩ := q1
      obtain ⟨_, _, _, _, _, _⟩ := q2
      exact ⟨by omega, by omega, by omega, by omega, by omega, by omega⟩
    have CC := Geo.contains_any x1 x2 x3 x4 x5 x6 _ _ _ vx vm
    rw [Geo.wiB_pt, decide_eq_true hcen] at CC
    replace CC := Lib.hid CC
    have hpx := Geo.pts_rng vx
    have hpy := Geo.pts_rng vy
    generalize a + (d - a) / 2 = m1 at *
    generalize b + (e - b) / 2 = m2 at *
    generalize c + (f - c) / 2 = m3 at *
    generalize Geo.near3 x1 x2 x3 x4 x5 x6 p q r = nX at *
    generalize Geo.near3 y1 y2 y3 y4 y5 y6 p q r = nY at *
    generalize Geo.near3 a b c d e f p q r = nB at *
    generalize Geo.far3 x1 x2 x3 x4 x5 x6 p q r = fX at *
    generalize Geo.far3 y1 y2 y3 y4 y5 y6 p q r = fY at *
    generalize Geo.far3 a b c d e f p q r = fB at *
    generalize Geo.pts x1 x2 x3 x4 x5 x6 = pX at *
    generalize Geo.pts y1 y2 y3 y4 y5 y6 = pY at *
    generalize Geo.pts a b c d e f = pB at *
    have hd1 : decide (1 < pB) = true := by simp; omega
    have hn1 : decide (nX < nB) = false := by simp; omega
    have hn2 : decide (nY < nB) = false := by simp; omega
    have hf1 : decide (fB < fX) = false := by simp; omega
    have hf2 : decide (fB < fY) = false := by simp; omega
    have hs0 : 0 ≤ pX + pY := by omega
    have hs1 : pX + pY ≤ 4683752477283074049 := by omega
    have hsum : wrap64 (pX + pY) = pB := by rw [IntWalk.wrap64_in _ (by omega)]; exact hnum
    have hsum' : IntKind.i64.wrap (pX + pY) = pB := by rw [IntWalk.i64_in _ (by omega)]; exact hnum
    replace hsum := Lib.hid hsum
    replace hsum' := Lib.hid hsum'
    clear n1 n2 f1 f2 hcen hpx hpy hpb hnum u1 u2 u3 u4 u5 u6 vm wx wy h2 hs0 hs1
    obtain ⟨i1, i2, i3, i4, i5, i6⟩ := Geo.cells6 g1.out
    go_wp2_with fail
    generalize (w4.alloc (.cells #[.int .i64 x1, .int .i64 x2, .int .i64 x3, .int .i64 x4, .int .i64 x5, .int .i64 x6] 28)).alloc (.cells #[.int .i64 y1, .int .i64 y2, .int .i64 y3, .int .i64 y4, .int .i64 y5, .int .i64 y6] 28) = w5 at *
    with_reducible refine (PB.out _).mono ?_
    rintro e0 w6 ⟨rfl, hc⟩
    replace g1 := Lib.hid (Geo.blk_b hc g1.out)
    replace g2 := Lib.hid (Geo.blk_b hc g2.out)
    replace g3 := Lib.hid (Geo.blk_b hc g3.out)
    replace g4 := Lib.hid (Geo.blk_b hc g4.out)
    replace L0 := Lib.hid (L0.out.below hc)
    clear hc i1 i2 i3 i4 i5 i6
    go_wp2_with fail
    go_loopw [9] (fun i wr => ∃ k : Nat, k ≤ 8 ∧ i = .int .i64 k ∧ Hid (Src.Left w wA wr w.heap.size a0 n cap0 z0) ∧ Hid (wr.heap[w2.heap.size]? = some (.cells #[.int .i64 a, .int .i64 b, .int .i64 c, .int .i64 d, .int .i64 e, .int .i64 f] 28 (0, 0))) ∧ Hid (wr.heap[w2.heap.size + 1]? = some (.cells #[.int .i64 p, .int .i64 q, .int .i64 r] 26 (0, 0))) ∧ Hid (wr.heap[w4.heap.size]? = some (.cells #[.int .i64 x1, .int .i64 x2, .int .i64 x3, .int .i64 x4, .int .i64 x5, .int .i64 x6] 28 (0, 0))) ∧ Hid (wr.heap[w4.heap.size + 1]? = some (.cells #[.int .i64 y1, .int .i64 y2, .int .i64 y3, .int .i64 y4, .int .i64 y5, .int .i64 y6] 28 (0, 0)))) (fun i _ => (8 - intOf i).toNat)
    case atStart => exact ⟨0, by omega, rfl, L0, g1, g2, g3, g4⟩
    case round =>
      clear L0 g1 g2 g3 g4
      obtain ⟨k, hk, rfl, L0, g1, g2, g3, g4⟩ := hrel
      by_cases hlt : k < 8
      · have hlt' : (k : Int) < 8 := by omega
        obtain ⟨i1, i2, i3, i4, i5, i6⟩ := Geo.cells6 g1.out
        go_wp2_with fail
        refine (Src.point_any a b c d e f vb L0.out.di).mono ?_
        rintro e0 w7 ⟨⟨s1, s2, s3, rfl, k1, k2, k3, k4, k5, k6⟩, hl⟩
        replace g1 := Lib.hid (Geo.blk_alloc (hl.blk g1.out ne1) (.cells #[.int .i64 s1, .int .i64 s2, .int .i64 s3] 26))
        replace g2 := Lib.hid (Geo.blk_alloc (hl.blk g2.out ne2) (.cells #[.int .i64 s1, .int .i64 s2, .int .i64 s3] 26))
        replace g3 := Lib.hid (Geo.blk_alloc (hl.blk g3.out ne3) (.cells #[.int .i64 s1, .int .i64 s2, .int .i64 s3] 26))
        replace g4 := Lib.hid (Geo.blk_alloc (hl.blk g4.out ne4) (.cells #[.int .i64 s1, .int .i64 s2, .int .i64 s3] 26))
        have g5 := Lib.hid (Geo.blk_new w7 (.cells #[.int .i64 s1, .int .i64 s2, .int .i64 s3] 26))
        replace L0 := Lib.hid ((L0.out.trans hl).alloc (.cells #[.int .i64 s1, .int .i64 s2, .int .i64 s3] 26))
        have vs : Geo.PV s1 s2 s3 := by
          have q1 := vb.lo
          have q2 := vb.hi
          obtain ⟨_, _, _, _, _, _⟩ := q1
          obtain ⟨_, _, _, _, _, _⟩ := q2
          exact ⟨by omega, by omega, by omega, by omega, by omega, by omega⟩
        have CX := Geo.contains_any x1 x2 x3 x4 x5 x6 s1 s2 s3 vx vs
        have CY := Geo.contains_any y1 y2 y3 y4 y5 y6 s1 s2 s3 vy vs
        rw [hpart.out s1 s2 s3 k1 k2 k3 k4 k5 k6] at CX
        generalize Geo.wiB s1 s2 s3 s1 s2 s3 y1 y2 y3 y4 y5 y6 = cy at *
        replace CX := Lib.hid CX
        replace CY := Lib.hid CY
        clear hl i1 i2 i3 i4 i5 i6 k1 k2 k3 k4 k5 k6 vs
        go_wp2_with fail
        generalize w7.alloc (.cells #[.int .i64 s1, .int .i64 s2, .int .i64 s3] 26) = w8 at *
        cases cy
        all_goals
          simp only [Bool.not_true, Bool.not_false] at CX
          refine Buf.region_calm _ (by kernel_rfl) (by kernel_rfl) (Below.refl _ _) ?_
          repeat (go_big_quiet_step ((intro hC; first
                | (go_at_call 11; first | (with_reducible exact Buf.calm hC (CX.out _)) | (with_reducible exact Buf.calm hC (CY.out _)))
                | rfl
                | (simp only [(Geo.bcells g3 hC).1, (Geo.bcells g3 hC).2.1, (Geo.bcells g3 hC).2.2.1, (Geo.bcells g3 hC).2.2.2.1, (Geo.bcells g3 hC).2.2.2.2.1, (Geo.bcells g3 hC).2.2.2.2.2, Result.andThen_ok]; exact ⟨trivial, rfl⟩)
                | (simp only [(Geo.bcells g4 hC).1, (Geo.bcells g4 hC).2.1, (Geo.bcells g4 hC).2.2.1, (Geo.bcells g4 hC).2.2.2.1, (Geo.bcells g4 hC).2.2.2.2.1, (Geo.bcells g4 hC).2.2.2.2.2, Result.andThen_ok]; exact ⟨trivial, rfl⟩)
                | (simp only [(Geo.pcells g5 hC).1, (Geo.pcells g5 hC).2.1, (Geo.pcells g5 hC).2.2, Result.andThen_ok]; exact ⟨trivial, rfl⟩))))
          refine wpQuiet_nil ?_
          intro w9 hc
          go_wp2
          go_roundw
          case rel => exact ⟨k + 1, by omega, by go_num, Lib.hid (L0.out.below hc), Lib.hid (Geo.blk_b hc g1.out), Lib.hid (Geo.blk_b hc g2.out), Lib.hid (Geo.blk_b hc g3.out), Lib.hid (Geo.blk_b hc g4.out)⟩
          case measure => simp [intOf]; omega
      · obtain rfl : k = 8 := by omega
        obtain ⟨wo, rfl⟩ : ∃ wo, wo = wr := ⟨_, rfl⟩
        have hb := Lib.hid L0.out.di.bel
        clear L0
        obtain ⟨i1, i2, i3, i4, i5, i6⟩ := Geo.cells6 g3.out
        obtain ⟨j1, j2, j3, j4, j5, j6⟩ := Geo.cells6 g4.out
        have g6 := Lib.hid (Geo.blk_new wo (.cells #[.int .i64 x1, .int .i64 x2, .int .i64 x3, .int .i64 x4, .int .i64 x5, .int .i64 x6, .int .i64 y1, .int .i64 y2, .int .i64 y3, .int .i64 y4, .int .i64 y5, .int .i64 y6] 28))
        replace g1 := Lib.hid (Geo.blk_alloc g1.out (.cells #[.int .i64 x1, .int .i64 x2, .int .i64 x3, .int .i64 x4, .int .i64 x5, .int .i64 x6, .int .i64 y1, .int .i64 y2, .int .i64 y3, .int .i64 y4, .int .i64 y5, .int .i64 y6] 28))
        replace g2 := Lib.hid (Geo.blk_alloc g2.out (.cells #[.int .i64 x1, .int .i64 x2, .int .i64 x3, .int .i64 x4, .int .i64 x5, .int .i64 x6, .int .i64 y1, .int .i64 y2, .int .i64 y3, .int .i64 y4, .int .i64 y5, .int .i64 y6] 28))
        replace g3 := Lib.hid (Geo.blk_alloc g3.out (.cells #[.int .i64 x1, .int .i64 x2, .int .i64 x3, .int .i64 x4, .int .i64 x5, .int .i64 x6, .int .i64 y1, .int .i64 y2, .int .i64 y3, .int .i64 y4, .int .i64 y5, .int .i64 y6] 28))
        replace g4 := Lib.hid (Geo.blk_alloc g4.out (.cells #[.int .i64 x1, .int .i64 x2, .int .i64 x3, .int .i64 x4, .int .i64 x5, .int .i64 x6, .int .i64 y1, .int .i64 y2, .int .i64 y3, .int .i64 y4, .int .i64 y5, .int .i64 y6] 28))
        replace hb := Lib.hid (Geo.bl_alloc hb.out (o := (.cells #[.int .i64 x1, .int .i64 x2, .int .i64 x3, .int .i64 x4, .int .i64 x5, .int .i64 x6, .int .i64 y1, .int .i64 y2, .int .i64 y3, .int .i64 y4, .int .i64 y5, .int .i64 y6] 28)))
        go_wp2_with fail
        go_loopw [58] (fun i wr => ∃ k : Nat, k ≤ 2 ∧ i = .int .i64 k ∧ Hid (wr.heap[w2.heap.size]? = some (.cells #[.int .i64 a, .int .i64 b, .int .i64 c, .int .i64 d, .int .i64 e, .int .i64 f] 28 (0, 0))) ∧ Hid (wr.heap[w2.heap.size + 1]? = some (.cells #[.int .i64 p, .int .i64 q, .int .i64 r] 26 (0, 0))) ∧ Hid (wr.heap[w4.heap.size]? = some (.cells #[.int .i64 x1, .int .i64 x2, .int .i64 x3, .int .i64 x4, .int .i64 x5, .int .i64 x6] 28 (0, 0))) ∧ Hid (wr.heap[w4.heap.size + 1]? = some (.cells #[.int .i64 y1, .int .i64 y2, .int .i64 y3, .int .i64 y4, .int .i64 y5, .int .i64 y6] 28 (0, 0))) ∧ Hid (wr.heap[wo.heap.size]? = some (.cells #[.int .i64 x1, .int .i64 x2, .int .i64 x3, .int .i64 x4, .int .i64 x5, .int .i64 x6, .int .i64 y1, .int .i64 y2, .int .i64 y3, .int .i64 y4, .int .i64 y5, .int .i64 y6] 28 (0, 0))) ∧ Hid (Below w.heap.size w wr)) (fun i _ => (2 - intOf i).toNat)
        case atStart => exact ⟨0, by omega, rfl, g1, g2, g3, g4, g6, hb⟩
        case round =>
          clear g1 g2 g3 g4 g6 hb i1 i2 i3 i4 i5 i6 j1 j2 j3 j4 j5 j6
          obtain ⟨k, hk2, rfl, g1, g2, g3, g4, g6, hb⟩ := hrel
          obtain ⟨i1, i2, i3, i4, i5, i6, j1, j2, j3, j4, j5, j6⟩ := Geo.cells12 g6.out
          by_cases h0 : k = 0
          · subst h0
            have g5 := Lib.hid (Geo.blk_new wr (.cells #[.int .i64 x1, .int .i64 x2, .int .i64 x3, .int .i64 x4, .int .i64 x5, .int .i64 x6] 28))
            replace g1 := Lib.hid (Geo.blk_alloc g1.out (.cells #[.int .i64 x1, .int .i64 x2, .int .i64 x3, .int .i64 x4, .int .i64 x5, .int .i64 x6] 28))
            replace g2 := Lib.hid (Geo.blk_alloc g2.out (.cells #[.int .i64 x1, .int .i64 x2, .int .i64 x3, .int .i64 x4, .int .i64 x5, .int .i64 x6] 28))
            replace g3 := Lib.hid (Geo.blk_alloc g3.out (.cells #[.int .i64 x1, .int .i64 x2, .int .i64 x3, .int .i64 x4, .int .i64 x5, .int .i64 x6] 28))
            replace g4 := Lib.hid (Geo.blk_alloc g4.out (.cells #[.int .i64 x1, .int .i64 x2, .int .i64 x3, .int .i64 x4, .int .i64 x5, .int .i64 x6] 28))
            replace g6 := Lib.hid (Geo.blk_alloc g6.out (.cells #[.int .i64 x1, .int .i64 x2, .int .i64 x3, .int .i64 x4, .int .i64 x5, .int .i64 x6] 28))
            replace hb := Lib.hid (Geo.bl_alloc hb.out (o := (.cells #[.int .i64 x1, .int .i64 x2, .int .i64 x3, .int .i64 x4, .int .i64 x5, .int .i64 x6] 28)))
            go_wp2_with fail
            generalize wr.alloc (.cells #[.int .i64 x1, .int .i64 x2, .int .i64 x3, .int .i64 x4, .int .i64 x5, .int .i64 x6] 28) = w9 at *
            clear i1 i2 i3 i4 i5 i6 j1 j2 j3 j4 j5 j6
            refine Buf.region_calm _ (by kernel_rfl) (by kernel_rfl) (Below.refl _ _) ?_
            repeat (go_big_quiet_step ((intro hC; first
                  | (go_at_call 19; first | (with_reducible exact Buf.calm hC (WX.out _)))
                  | (go_at_call 12; first | (with_reducible exact Buf.calm hC (NX.out _)) | (with_reducible exact Buf.calm hC (NB.out _)))
                  | (go_at_call 13; first | (with_reducible exact Buf.calm hC (FX.out _)) | (with_reducible exact Buf.calm hC (FB.out _)))
                  | rfl
                  | (simp only [(Geo.bcells g5 hC).1, (Geo.bcells g5 hC).2.1, (Geo.bcells g5 hC).2.2.1, (Geo.bcells g5 hC).2.2.2.1, (Geo.bcells g5 hC).2.2.2.2.1, (Geo.bcells g5 hC).2.2.2.2.2, Result.andThen_ok]; exact ⟨trivial, rfl⟩)
                  | (simp only [(Geo.bcells g1 hC).1, (Geo.bcells g1 hC).2.1, (Geo.bcells g1 hC).2.2.1, (Geo.bcells g1 hC).2.2.2.1, (Geo.bcells g1 hC).2.2.2.2.1, (Geo.bcells g1 hC).2.2.2.2.2, Result.andThen_ok]; exact ⟨trivial, rfl⟩)
                  | (simp only [(Geo.pcells g2 hC).1, (Geo.pcells g2 hC).2.1, (Geo.pcells g2 hC).2.2, Result.andThen_ok]; exact ⟨trivial, rfl⟩))))
            refine wpQuiet_nil ?_
            intro w10 hc
            go_wp2
            go_roundw
            case rel => exact ⟨1, by omega, rfl, Lib.hid (Geo.blk_b hc g1.out), Lib.hid (Geo.blk_b hc g2.out), Lib.hid (Geo.blk_b hc g3.out), Lib.hid (Geo.blk_b hc g4.out), Lib.hid (Geo.blk_b hc g6.out), Lib.hid (Buf.then_ hb.out hc)⟩
            case measure => simp [intOf]
          by_cases h1 : k = 1
          · subst h1
            have g5 := Lib.hid (Geo.blk_new wr (.cells #[.int .i64 y1, .int .i64 y2, .int .i64 y3, .int .i64 y4, .int .i64 y5, .int .i64 y6] 28))
            replace g1 := Lib.hid (Geo.blk_alloc g1.out (.cells #[.int .i64 y1, .int .i64 y2, .int .i64 y3, .int .i64 y4, .int .i64 y5, .int .i64 y6] 28))
            replace g2 := Lib.hid (Geo.blk_alloc g2.out (.cells #[.int .i64 y1, .int .i64 y2, .int .i64 y3, .int .i64 y4, .int .i64 y5, .int .i64 y6] 28))
            replace g3 := Lib.hid (Geo.blk_alloc g3.out (.cells #[.int .i64 y1, .int .i64 y2, .int .i64 y3, .int .i64 y4, .int .i64 y5, .int .i64 y6] 28))
            replace g4 := Lib.hid (Geo.blk_alloc g4.out (.cells #[.int .i64 y1, .int .i64 y2, .int .i64 y3, .int .i64 y4, .int .i64 y5, .int .i64 y6] 28))
            replace g6 := Lib.hid (Geo.blk_alloc g6.out (.cells #[.int .i64 y1, .int .i64 y2, .int .i64 y3, .int .i64 y4, .int .i64 y5, .int .i64 y6] 28))
            replace hb := Lib.hid (Geo.bl_alloc hb.out (o := (.cells #[.int .i64 y1, .int .i64 y2, .int .i64 y3, .int .i64 y4, .int .i64 y5, .int .i64 y6] 28)))
            go_wp2_with fail
            generalize wr.alloc (.cells #[.int .i64 y1, .int .i64 y2, .int .i64 y3, .int .i64 y4, .int .i64 y5, .int .i64 y6] 28) = w9 at *
            clear i1 i2 i3 i4 i5 i6 j1 j2 j3 j4 j5 j6
            refine Buf.region_calm _ (by kernel_rfl) (by kernel_rfl) (Below.refl _ _) ?_
            repeat (go_big_quiet_step ((intro hC; first
                  | (go_at_call 19; first | (with_reducible exact Buf.calm hC (WY.out _)))
                  | (go_at_call 12; first | (with_reducible exact Buf.calm hC (NY.out _)) | (with_reducible exact Buf.calm hC (NB.out _)))
                  | (go_at_call 13; first | (with_reducible exact Buf.calm hC (FY.out _)) | (with_reducible exact Buf.calm hC (FB.out _)))
                  | rfl
                  | (simp only [(Geo.bcells g5 hC).1, (Geo.bcells g5 hC).2.1, (Geo.bcells g5 hC).2.2.1, (Geo.bcells g5 hC).2.2.2.1, (Geo.bcells g5 hC).2.2.2.2.1, (Geo.bcells g5 hC).2.2.2.2.2, Result.andThen_ok]; exact ⟨trivial, rfl⟩)
                  | (simp only [(Geo.bcells g1 hC).1, (Geo.bcells g1 hC).2.1, (Geo.bcells g1 hC).2.2.1, (Geo.bcells g1 hC).2.2.2.1, (Geo.bcells g1 hC).2.2.2.2.1, (Geo.bcells g1 hC).2.2.2.2.2, Result.andThen_ok]; exact ⟨trivial, rfl⟩)
                  | (simp only [(Geo.pcells g2 hC).1, (Geo.pcells g2 hC).2.1, (Geo.pcells g2 hC).2.2, Result.andThen_ok]; exact ⟨trivial, rfl⟩))))
            refine wpQuiet_nil ?_
            intro w10 hc
            go_wp2
            go_roundw
            case rel => exact ⟨2, by omega, rfl, Lib.hid (Geo.blk_b hc g1.out), Lib.hid (Geo.blk_b hc g2.out), Lib.hid (Geo.blk_b hc g3.out), Lib.hid (Geo.blk_b hc g4.out), Lib.hid (Geo.blk_b hc g6.out), Lib.hid (Buf.then_ hb.out hc)⟩
            case measure => simp [intOf]
          obtain rfl : k = 2 := by omega
          clear i1 i2 i3 i4 i5 i6 j1 j2 j3 j4 j5 j6 g6 g2
          go_wp2_with fail
          have hsum1 := hsum.out
          have hsum2 := hsum'.out
          refine Buf.region_calm _ (by kernel_rfl) (by kernel_rfl) (Below.refl _ _) ?_
          repeat (go_big_quiet_step ((intro hC; first
                | (go_at_call 20; first | (with_reducible exact Buf.calm hC (CEN.out _)))
                | (go_at_call 11; first | (with_reducible exact Buf.calm hC (CC.out _)))
                | (go_at_call 14; first | (with_reducible exact Buf.calm hC (PX.out _)) | (with_reducible exact Buf.calm hC (PY.out _)) | (with_reducible exact Buf.calm hC (PB.out _)))
                | (go_at_call 21; first | (with_reducible exact Buf.calm hC (HXY.out _)))
                | (go_at_call 15; exact Buf.calm hC (Geo.awake_any _))
                | rfl
                | (simp only [(Geo.bcells g3 hC).1, (Geo.bcells g3 hC).2.1, (Geo.bcells g3 hC).2.2.1, (Geo.bcells g3 hC).2.2.2.1, (Geo.bcells g3 hC).2.2.2.2.1, (Geo.bcells g3 hC).2.2.2.2.2, Result.andThen_ok]; exact ⟨trivial, rfl⟩)
                | (simp only [(Geo.bcells g4 hC).1, (Geo.bcells g4 hC).2.1, (Geo.bcells g4 hC).2.2.1, (Geo.bcells g4 hC).2.2.2.1, (Geo.bcells g4 hC).2.2.2.2.1, (Geo.bcells g4 hC).2.2.2.2.2, Result.andThen_ok]; exact ⟨trivial, rfl⟩)
                | (simp only [(Geo.bcells g1 hC).1, (Geo.bcells g1 hC).2.1, (Geo.bcells g1 hC).2.2.1, (Geo.bcells g1 hC).2.2.2.1, (Geo.bcells g1 hC).2.2.2.2.1, (Geo.bcells g1 hC).2.2.2.2.2, Result.andThen_ok]; exact ⟨trivial, rfl⟩))))
          refine wpQuiet_nil ?_
          intro w10 hc
          go_wp2
          go_ret
          exact ⟨rfl, Buf.then_ hb.out hc⟩
  · obtain ⟨rfl, rfl, rfl⟩ := Geo.pts_one vb (by omega)
    have HN := Lib.hid (Geo.split_no a b c vb)
    rw [Geo.pts_self] at PB
    go_wp2_with fail
    with_reducible refine (HN.out _).mono ?_
    rintro e0 w4 ⟨rfl, hc⟩
    replace g1 := Lib.hid (Geo.blk_alloc (Geo.blk_alloc (Geo.blk_b hc g1.out) (.cells #[.int .i64 0, .int .i64 0, .int .i64 0, .int .i64 0, .int .i64 0, .int .i64 0] 28)) (.cells #[.int .i64 0, .int .i64 0, .int .i64 0, .int .i64 0, .int .i64 0, .int .i64 0] 28))
    replace L0 := Lib.hid (((L0.out.below hc).alloc (.cells #[.int .i64 0, .int .i64 0, .int .i64 0, .int .i64 0, .int .i64 0, .int .i64 0] 28)).alloc (.cells #[.int .i64 0, .int .i64 0, .int .i64 0, .int .i64 0, .int .i64 0, .int .i64 0] 28))
    have hb := Lib.hid L0.out.di.bel
    clear hc i1 i2 i3 i4 i5 i6 L0 g2
    obtain ⟨i1, i2, i3, i4, i5, i6⟩ := Geo.cells6 g1.out
    go_wp2_with fail
    with_reducible refine (PB.out _).mono ?_
    rintro e0 w5 ⟨rfl, hc⟩
    replace g1 := Lib.hid (Geo.blk_b hc g1.out)
    replace hb := Lib.hid (Buf.then_ hb.out hc)
    clear hc i1 i2 i3 i4 i5 i6
    obtain ⟨i1, i2, i3, i4, i5, i6⟩ := Geo.cells6 g1.out
    go_wp2_with (go_at_call 15; refine (Geo.awake_any _).mono ?_; rintro e0 w6 ⟨rfl, hc⟩)
    go_ret
    exact ⟨rfl, Buf.then_ hb.out hc⟩
end Laws
end Go.Proofs.Ythnjibbmacejiaa
