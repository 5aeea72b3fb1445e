/- Contract of travel.Interval at a valid table and valid positions. -/
import Derived.Test.YtmmikihkfpkapaaTravelL
namespace Go.Proofs.Ytmmikihkfpkapaa
open Go.RowKit
namespace Trav
theorem sq3_bd {a b c d e f : Int} (h1 : Geo.PV a b c) (h2 : Geo.PV d e f) : 0 ≤ Geo.sq3 a b c d e f ∧ Geo.sq3 a b c d e f ≤ 13194139533312 := by
  obtain ⟨ax0, ax1, ay0, ay1, az0, az1⟩ := h1
  obtain ⟨bx0, bx1, by0, by1, bz0, bz1⟩ := h2
  obtain ⟨s0, s1⟩ := Geo.sq_bd (show -2097152 ≤ a - d by omega) (show a - d ≤ 2097152 by omega)
  obtain ⟨s2, s3⟩ := Geo.sq_bd (show -2097152 ≤ b - e by omega) (show b - e ≤ 2097152 by omega)
  obtain ⟨s4, s5⟩ := Geo.sq_bd (show -2097152 ≤ c - f by omega) (show c - f ≤ 2097152 by omega)
  unfold Geo.sq3
  omega
theorem bel3 (w : World) (o p q : Obj) : Below w.heap.size w (((w.alloc o).alloc p).alloc q) := Buf.then_ (bel2 o p) (new_block q)
theorem blk3a (w : World) (o p q : Obj) : (((w.alloc o).alloc p).alloc q).heap[w.heap.size]? = some o := blk_alloc (blk_alloc (blk_new w o) p) q
theorem blk3b (w : World) (o p q : Obj) : (((w.alloc o).alloc p).alloc q).heap[w.heap.size + 1]? = some p := blk_alloc (Geo.blk_new1 w o p) q
theorem blk3c (w : World) (o p q : Obj) : (((w.alloc o).alloc p).alloc q).heap[w.heap.size + 1 + 1]? = some q := Geo.blk_new2 w o p q
set_option maxHeartbeats 1000000 in
set_option maxRecDepth 100000 in
theorem interval_ok (s : Int) (b1 b2 n c1 c2 : Nat) (lo hi : List Int) (a b c d e f : Int) (q1 q2 : Nat) (w : World) (h : TV w s b1 b2 n lo hi) (h1 : Geo.PV a b c) (h2 : Geo.PV d e f) (hr : Root.ce (Geo.sq3 a b c d e f) ≤ s * ((n : Int) - 1))
    (e1 : (q1 : Int) = Root.rt (Geo.sq3 a b c d e f) 32 / s) (e2 : (q2 : Int) = (Root.ce (Geo.sq3 a b c d e f) + s - 1) / s) :
    Calls Try.prog 42 #[.agg #[.int .i64 s, .slice (some ⟨b1, 0, none⟩) n c1, .slice (some ⟨b2, 0, none⟩) n c2], .agg #[.int .i64 a, .int .i64 b, .int .i64 c], .agg #[.int .i64 d, .int .i64 e, .int .i64 f]] w fun r w' => r = .returned (.tuple #[.int .i64 (lo.getD q1 0), .int .i64 (hi.getD q2 0), .int .i64 0]) ∧ Below w.heap.size w w' := by
  obtain ⟨m0, m9⟩ := sq3_bd h1 h2
  have B := Lib.hid fun w h => between_ok s b1 b2 n c1 c2 lo hi _ _ q1 q2 w h m0 (Int.le_refl _) (by omega) hr e1 e2
  have S := Lib.hid fun w => Geo.square_yes a b c d e f h1 h2 w
  have V1 := Lib.hid fun w => Geo.valid_yes a b c h1 w
  have V2 := Lib.hid fun w => Geo.valid_yes d e f h2 w
  have V := Lib.hid fun w h => validate_yes s b1 b2 n c1 c2 lo hi w h
  have tv := Lib.hid (h.below (bel3 w (.cells #[.int .i64 s, .slice (some ⟨b1, 0, none⟩) n c1, .slice (some ⟨b2, 0, none⟩) n c2] 30) (.cells #[.int .i64 a, .int .i64 b, .int .i64 c] 26) (.cells #[.int .i64 d, .int .i64 e, .int .i64 f] 26)))
  have p1 := Lib.hid (blk3a w (.cells #[.int .i64 s, .slice (some ⟨b1, 0, none⟩) n c1, .slice (some ⟨b2, 0, none⟩) n c2] 30) (.cells #[.int .i64 a, .int .i64 b, .int .i64 c] 26) (.cells #[.int .i64 d, .int .i64 e, .int .i64 f] 26))
  have p2 := Lib.hid (blk3b w (.cells #[.int .i64 s, .slice (some ⟨b1, 0, none⟩) n c1, .slice (some ⟨b2, 0, none⟩) n c2] 30) (.cells #[.int .i64 a, .int .i64 b, .int .i64 c] 26) (.cells #[.int .i64 d, .int .i64 e, .int .i64 f] 26))
  have p3 := Lib.hid (blk3c w (.cells #[.int .i64 s, .slice (some ⟨b1, 0, none⟩) n c1, .slice (some ⟨b2, 0, none⟩) n c2] 30) (.cells #[.int .i64 a, .int .i64 b, .int .i64 c] 26) (.cells #[.int .i64 d, .int .i64 e, .int .i64 f] 26))
  have hW := Lib.hid (bel3 w (.cells #[.int .i64 s, .slice (some ⟨b1, 0, none⟩) n c1, .slice (some ⟨b2, 0, none⟩) n c2] 30) (.cells #[.int .i64 a, .int .i64 b, .int .i64 c] 26) (.cells #[.int .i64 d, .int .i64 e, .int .i64 f] 26))
  clear hr e1 e2 h h1 h2
  generalize Geo.sq3 a b c d e f = m at *
  go_enter Try.func42, Try.ntmps42
  go_wp2_with fail
  refine (V.out _ tv.out).mono ?_
  rintro e0 w1 ⟨rfl, hc⟩
  replace p1 := Lib.hid (blk_b hc p1.out)
  replace p2 := Lib.hid (blk_b hc p2.out)
  replace p3 := Lib.hid (blk_b hc p3.out)
  replace tv := Lib.hid (tv.out.below hc)
  replace hW := Lib.hid (Buf.then_ hW.out hc)
  clear hc V
  obtain ⟨x1, x2, x3⟩ := tcells p1.out
  obtain ⟨y1, y2, y3⟩ := tcells p2.out
  obtain ⟨z1, z2, z3⟩ := tcells p3.out
  go_wp2_with fail
  refine (V1.out _).mono ?_
  rintro e0 w2 ⟨rfl, hc⟩
  replace p1 := Lib.hid (blk_b hc p1.out)
  replace p2 := Lib.hid (blk_b hc p2.out)
  replace p3 := Lib.hid (blk_b hc p3.out)
  replace tv := Lib.hid (tv.out.below hc)
  replace hW := Lib.hid (Buf.then_ hW.out hc)
  clear hc V1 x1 x2 x3 y1 y2 y3 z1 z2 z3
  obtain ⟨x1, x2, x3⟩ := tcells p1.out
  obtain ⟨y1, y2, y3⟩ := tcells p2.out
  obtain ⟨z1, z2, z3⟩ := tcells p3.out
  go_wp2_with fail
  refine (V2.out _).mono ?_
  rintro e0 w3 ⟨rfl, hc⟩
  replace p1 := Lib.hid (blk_b hc p1.out)
  replace p2 := Lib.hid (blk_b hc p2.out)
  replace p3 := Lib.hid (blk_b hc p3.out)
  replace tv := Lib.hid (tv.out.below hc)
  replace hW := Lib.hid (Buf.then_ hW.out hc)
  clear hc V2 x1 x2 x3 y1 y2 y3 z1 z2 z3
  obtain ⟨x1, x2, x3⟩ := tcells p1.out
  obtain ⟨y1, y2, y3⟩ := tcells p2.out
  obtain ⟨z1, z2, z3⟩ := tcells p3.out
  go_wp2_with fail
  refine (S.out _).mono ?_
  rintro e0 w4 ⟨rfl, hc⟩
  replace p1 := Lib.hid (blk_b hc p1.out)
  replace p2 := Lib.hid (blk_b hc p2.out)
  replace p3 := Lib.hid (blk_b hc p3.out)
  replace tv := Lib.hid (tv.out.below hc)
  replace hW := Lib.hid (Buf.then_ hW.out hc)
  clear hc S x1 x2 x3 y1 y2 y3 z1 z2 z3
  obtain ⟨x1, x2, x3⟩ := tcells p1.out
  go_wp2_with fail
  refine (B.out _ tv.out).mono ?_
  rintro e0 w5 ⟨rfl, hc⟩
  replace p1 := Lib.hid (blk_b hc p1.out)
  replace p2 := Lib.hid (blk_b hc p2.out)
  replace p3 := Lib.hid (blk_b hc p3.out)
  replace tv := Lib.hid (tv.out.below hc)
  replace hW := Lib.hid (Buf.then_ hW.out hc)
  clear hc B x1 x2 x3
  go_wp2
  go_ret3
  exact ⟨rfl, hW.out⟩
end Trav
end Go.Proofs.Ytmmikihkfpkapaa
