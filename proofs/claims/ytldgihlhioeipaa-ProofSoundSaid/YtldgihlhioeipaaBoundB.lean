/- Contracts of package bound: Meets, ValidPhase, Zone. -/
import Derived.Test.YtldgihlhioeipaaBoundA
namespace Go.Proofs.Ytldgihlhioeipaa
open Go.RowKit
namespace Bound
theorem zc {w : World} {g : Nat} {x y : Value} {t : TypeId} (h : w.heap[g]? = some (.cells #[x, y] t (0, 0))) : w.cell? ⟨g, 0, none⟩ = some x ∧ w.cell? ⟨g, 1, none⟩ = some y :=
  ⟨cell_of_row w g 0 _ _ _ h, cell_of_row w g 1 _ _ _ h⟩
structure PhV (x y z E L W : Int) : Prop where
  pv : Geo.PV x y z
  e0 : 0 ≤ E
  el : E ≤ L
  l9 : L ≤ 18014398509481984
  w1 : 1 ≤ W
  w9 : W ≤ 100
set_option maxHeartbeats 1000000 in
set_option maxRecDepth 100000 in
theorem validPhase_yes (x y z E L W : Int) (h : PhV x y z E L W) (w : World) :
    Calls Try.prog 70 #[.agg #[.int .i64 x, .int .i64 y, .int .i64 z, .int .i64 E, .int .i64 L, .int .i64 W]] w fun r w' => r = .returned (.bool true) ∧ Below w.heap.size w w' := by
  obtain ⟨pv, e0, el, l9, w1, w9⟩ := h
  have V := Lib.hid fun w => Geo.valid_yes x y z pv w
  have p1 := Lib.hid (Geo.blk_new w (.cells #[.int .i64 x, .int .i64 y, .int .i64 z, .int .i64 E, .int .i64 L, .int .i64 W] 63 ))
  have hA := Lib.hid (Geo.new_block (w := w) (.cells #[.int .i64 x, .int .i64 y, .int .i64 z, .int .i64 E, .int .i64 L, .int .i64 W] 63 ))
  clear pv
  go_enter Try.func70, Try.ntmps70
  obtain ⟨k1, k2, k3, k4, k5, k6⟩ := Geo.cells6 p1.out
  go_wp2_with fail
  refine (V.out _).mono ?_
  rintro r w3 ⟨rfl, hc⟩
  replace p1 := Lib.hid (Geo.blk_b hc p1.out)
  replace hA := Lib.hid (Buf.then_ hA.out hc)
  clear hc V k1 k2 k3 k4 k5 k6
  obtain ⟨k1, k2, k3, k4, k5, k6⟩ := Geo.cells6 p1.out
  go_wp2
  go_ret
  exact ⟨rfl, hA.out⟩
theorem zclo (x y z E L W lo hi : Int) (p : Nat) (w : World) (hp : w.heap[p]? = some (.cells #[.int .i64 x, .int .i64 y, .int .i64 z, .int .i64 E, .int .i64 L, .int .i64 W] 63 (0, 0))) (e0 : 0 ≤ E) (el : E ≤ L) (l9 : L ≤ 18014398509481984) (l0 : 0 ≤ lo) (lh : lo ≤ hi) (h9 : hi ≤ 1099511627776) :
    Calls Try.prog 84 #[.int .i64 lo, .int .i64 hi, .int .i64 0, .pointer (some ⟨p, 0, none⟩)] w fun r w' => r = .returned (.tuple #[.agg #[.int .i64 (E - hi), .int .i64 (L - lo)], .int .i64 0]) ∧ Below w.heap.size w w' := by
  obtain ⟨k1, k2, k3, k4, k5, k6⟩ := Geo.cells6 hp
  have hlt := (Array.getElem?_eq_some_iff.1 hp).1
  have hne : p ≠ w.heap.size := by omega
  go_enter Try.func84, Try.ntmps84
  go_wp2
  refine bodyPost_ret (v := .tuple #[.agg #[.int .i64 (E - hi), .int .i64 (L - lo)], .int .i64 0]) (by simp [results, Try.results84, go_sem]) rfl ⟨rfl, Geo.new_block _⟩
theorem bel4 (w : World) (o p q r : Obj) : Below w.heap.size w ((((w.alloc o).alloc p).alloc q).alloc r) := Buf.then_ (bel3 w o p q) (Geo.new_block r)
theorem nb0 (w : World) (o p q r : Obj) : ((((w.alloc o).alloc p).alloc q).alloc r).heap[w.heap.size]? = some o := Geo.blk_alloc (Geo.blk_alloc (Geo.blk_alloc (Geo.blk_new w o) p) q) r
theorem nb1 (w : World) (o p q r : Obj) : ((((w.alloc o).alloc p).alloc q).alloc r).heap[w.heap.size + 1]? = some p := Geo.blk_alloc (Geo.blk_alloc (Geo.blk_new1 w o p) q) r
theorem nb2 (w : World) (o p q r : Obj) : ((((w.alloc o).alloc p).alloc q).alloc r).heap[w.heap.size + 1 + 1]? = some q := Geo.blk_alloc (Geo.blk_new2 w o p q) r
theorem nb3 (w : World) (o p q r : Obj) : ((((w.alloc o).alloc p).alloc q).alloc r).heap[w.heap.size + 1 + 1 + 1]? = some r := by
  have h := Geo.blk_new ((((w.alloc o).alloc p).alloc q)) r
  simpa using h
theorem z2 {w : World} {g : Nat} {x y : Value} {t : TypeId} (h : w.heap[g]? = some (.cells #[x, y] t (0, 0))) (u v : Value) : ((w.setCell ⟨g, 0, none⟩ u).setCell ⟨g, 1, none⟩ v).heap[g]? = some (.cells #[u, v] t (0, 0)) := by
  have h1 := (heap_setCell_same w g 0 _ _ u h).trans rfl
  exact (heap_setCell_same _ g 1 _ _ v h1).trans rfl
set_option maxHeartbeats 4000000 in
set_option maxRecDepth 100000 in
theorem zone_ok (s : Int) (b1 b2 n c1 c2 : Nat) (lo hi : List Int) (a b c d e f x y z E L W : Int) (q1 q2 : Nat) (w : World) (h : Trav.TV w s b1 b2 n lo hi) (h1 : Geo.BV a b c d e f) (hp : PhV x y z E L W) (hr : Root.ce (Geo.far3 a b c d e f x y z) ≤ s * ((n : Int) - 1))
    (e1 : (q1 : Int) = Root.rt (Geo.near3 a b c d e f x y z) 32 / s) (e2 : (q2 : Int) = (Root.ce (Geo.far3 a b c d e f x y z) + s - 1) / s) (u1 : 0 ≤ lo.getD q1 0) (u2 : lo.getD q1 0 ≤ hi.getD q2 0) (u3 : hi.getD q2 0 ≤ 1099511627776) :
    Calls Try.prog 73 #[.agg #[.int .i64 s, .slice (some ⟨b1, 0, none⟩) n c1, .slice (some ⟨b2, 0, none⟩) n c2], .agg #[.int .i64 a, .int .i64 b, .int .i64 c, .int .i64 d, .int .i64 e, .int .i64 f], .agg #[.int .i64 x, .int .i64 y, .int .i64 z, .int .i64 E, .int .i64 L, .int .i64 W]] w fun r w' => r = .returned (.tuple #[.agg #[.int .i64 (E - hi.getD q2 0), .int .i64 (L - lo.getD q1 0)], .int .i64 0]) ∧ Below w.heap.size w w' := by
  have I := Lib.hid fun w h => interval_ok s b1 b2 n c1 c2 lo hi a b c d e f x y z q1 q2 w h h1 hp.pv hr e1 e2
  have V1 := Lib.hid fun w => Geo.validBox_yes a b c d e f h1 w
  have V2 := Lib.hid fun w => validPhase_yes x y z E L W hp w
  have tv := Lib.hid (h.below (bel4 w (.cells #[.int .i64 s, .slice (some ⟨b1, 0, none⟩) n c1, .slice (some ⟨b2, 0, none⟩) n c2] 33 ) (.cells #[.int .i64 a, .int .i64 b, .int .i64 c, .int .i64 d, .int .i64 e, .int .i64 f] 26 ) (.cells #[.int .i64 x, .int .i64 y, .int .i64 z, .int .i64 E, .int .i64 L, .int .i64 W] 63 ) (.cells #[.int .i64 0, .int .i64 0] 100 )))
  have hA := Lib.hid (bel4 w (.cells #[.int .i64 s, .slice (some ⟨b1, 0, none⟩) n c1, .slice (some ⟨b2, 0, none⟩) n c2] 33 ) (.cells #[.int .i64 a, .int .i64 b, .int .i64 c, .int .i64 d, .int .i64 e, .int .i64 f] 26 ) (.cells #[.int .i64 x, .int .i64 y, .int .i64 z, .int .i64 E, .int .i64 L, .int .i64 W] 63 ) (.cells #[.int .i64 0, .int .i64 0] 100 ))
  have p1 := Lib.hid (nb0 w (.cells #[.int .i64 s, .slice (some ⟨b1, 0, none⟩) n c1, .slice (some ⟨b2, 0, none⟩) n c2] 33 ) (.cells #[.int .i64 a, .int .i64 b, .int .i64 c, .int .i64 d, .int .i64 e, .int .i64 f] 26 ) (.cells #[.int .i64 x, .int .i64 y, .int .i64 z, .int .i64 E, .int .i64 L, .int .i64 W] 63 ) (.cells #[.int .i64 0, .int .i64 0] 100 ))
  have p2 := Lib.hid (nb1 w (.cells #[.int .i64 s, .slice (some ⟨b1, 0, none⟩) n c1, .slice (some ⟨b2, 0, none⟩) n c2] 33 ) (.cells #[.int .i64 a, .int .i64 b, .int .i64 c, .int .i64 d, .int .i64 e, .int .i64 f] 26 ) (.cells #[.int .i64 x, .int .i64 y, .int .i64 z, .int .i64 E, .int .i64 L, .int .i64 W] 63 ) (.cells #[.int .i64 0, .int .i64 0] 100 ))
  have p3 := Lib.hid (nb2 w (.cells #[.int .i64 s, .slice (some ⟨b1, 0, none⟩) n c1, .slice (some ⟨b2, 0, none⟩) n c2] 33 ) (.cells #[.int .i64 a, .int .i64 b, .int .i64 c, .int .i64 d, .int .i64 e, .int .i64 f] 26 ) (.cells #[.int .i64 x, .int .i64 y, .int .i64 z, .int .i64 E, .int .i64 L, .int .i64 W] 63 ) (.cells #[.int .i64 0, .int .i64 0] 100 ))
  have p4 := Lib.hid (nb3 w (.cells #[.int .i64 s, .slice (some ⟨b1, 0, none⟩) n c1, .slice (some ⟨b2, 0, none⟩) n c2] 33 ) (.cells #[.int .i64 a, .int .i64 b, .int .i64 c, .int .i64 d, .int .i64 e, .int .i64 f] 26 ) (.cells #[.int .i64 x, .int .i64 y, .int .i64 z, .int .i64 E, .int .i64 L, .int .i64 W] 63 ) (.cells #[.int .i64 0, .int .i64 0] 100 ))
  obtain ⟨_, i0, i1, i2, _, _⟩ := hp
  generalize lo.getD q1 0 = r1 at *
  generalize hi.getD q2 0 = r2 at *
  clear h h1 hr e1 e2
  go_enter Try.func73, Try.ntmps73
  go_wp2_with fail
  obtain ⟨w2, hw2⟩ : ∃ w2, w2 = (((w.alloc (.cells #[.int .i64 s, .slice (some ⟨b1, 0, none⟩) n c1, .slice (some ⟨b2, 0, none⟩) n c2] 33 )).alloc (.cells #[.int .i64 a, .int .i64 b, .int .i64 c, .int .i64 d, .int .i64 e, .int .i64 f] 26 )).alloc (.cells #[.int .i64 x, .int .i64 y, .int .i64 z, .int .i64 E, .int .i64 L, .int .i64 W] 63 )).alloc (.cells #[.int .i64 0, .int .i64 0] 100 ) := ⟨_, rfl⟩
  rw [← hw2] at p1 p2 p3 p4 hA tv ⊢
  clear hw2
  obtain ⟨k1, k2, k3, k4, k5, k6⟩ := Geo.cells6 p2.out
  go_wp2_with fail
  refine (V1.out _).mono ?_
  rintro r w3 ⟨rfl, hc⟩
  replace p1 := Lib.hid (Geo.blk_b hc p1.out)
  replace p2 := Lib.hid (Geo.blk_b hc p2.out)
  replace p3 := Lib.hid (Geo.blk_b hc p3.out)
  replace p4 := Lib.hid (Geo.blk_b hc p4.out)
  replace tv := Lib.hid (tv.out.below hc)
  replace hA := Lib.hid (Buf.then_ hA.out hc)
  clear hc V1 k1 k2 k3 k4 k5 k6
  obtain ⟨k1, k2, k3, k4, k5, k6⟩ := Geo.cells6 p3.out
  go_wp2_with fail
  refine (V2.out _).mono ?_
  rintro r w4 ⟨rfl, hc⟩
  replace p1 := Lib.hid (Geo.blk_b hc p1.out)
  replace p2 := Lib.hid (Geo.blk_b hc p2.out)
  replace p3 := Lib.hid (Geo.blk_b hc p3.out)
  replace p4 := Lib.hid (Geo.blk_b hc p4.out)
  replace tv := Lib.hid (tv.out.below hc)
  replace hA := Lib.hid (Buf.then_ hA.out hc)
  clear hc V2 k1 k2 k3 k4 k5 k6
  obtain ⟨k1, k2, k3, k4, k5, k6⟩ := Geo.cells6 p2.out
  obtain ⟨l1, l2, l3, l4, l5, l6⟩ := Geo.cells6 p3.out
  obtain ⟨m1, m2, m3⟩ := tc p1.out
  go_wp2_with fail
  refine (I.out _ tv.out).mono ?_
  rintro r w5 ⟨rfl, hc⟩
  replace p3 := Lib.hid (Geo.blk_b hc p3.out)
  replace p4 := Lib.hid (Geo.blk_b hc p4.out)
  replace hA := Lib.hid (Buf.then_ hA.out hc)
  clear hc I k1 k2 k3 k4 k5 k6 l1 l2 l3 l4 l5 l6 m1 m2 m3
  have C := Lib.hid (zclo x y z E L W r1 r2 _ w5 p3.out i0 i1 i2 u1 u2 u3)
  go_wp2_with fail
  refine C.out.mono ?_
  rintro r w6 ⟨rfl, hc⟩
  replace p4 := Lib.hid (Geo.blk_b hc p4.out)
  replace hA := Lib.hid (Buf.then_ hA.out hc)
  clear hc C p1 p2 p3 tv
  obtain ⟨k1, k2⟩ := zc p4.out
  have k3 := frozen_of_row w6 (w.heap.size + 1 + 1 + 1) 0 _ _ p4.out
  have k4 := frozen_of_row w6 (w.heap.size + 1 + 1 + 1) 1 _ _ p4.out
  have T := Lib.hid (z2 p4.out (.int .i64 (E - r2)) (.int .i64 (L - r1)))
  have hB := Lib.hid ((hA.out.setCell (p := ⟨w.heap.size + 1 + 1 + 1, 0, none⟩) (by simp; omega) (.int .i64 (E - r2))).setCell (p := ⟨w.heap.size + 1 + 1 + 1, 1, none⟩) (by simp; omega) (.int .i64 (L - r1)))
  obtain ⟨t1, t2⟩ := zc T.out
  go_wp2
  refine bodyPost_ret (v := .tuple #[.agg #[.int .i64 (E - r2), .int .i64 (L - r1)], .int .i64 0]) (by simp [results, Try.results73, go_sem, t1, t2]) rfl ⟨rfl, hB.out⟩
end Bound
end Go.Proofs.Ytldgihlhioeipaa
