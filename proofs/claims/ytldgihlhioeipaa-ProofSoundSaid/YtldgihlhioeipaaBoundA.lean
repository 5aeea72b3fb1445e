/- Contracts of package bound: distances, Interval at a valid table, box and station. -/
import Derived.Test.YtldgihlhioeipaaGeoJ
import Derived.Test.YtldgihlhioeipaaTravAC
namespace Go.Proofs.Ytldgihlhioeipaa
open Go.RowKit
namespace Bound
theorem nf1 {a d x : Int} (h : a ≤ d) (a0 : -1048576 ≤ a) (d1 : d ≤ 1048576) (x0 : -1048576 ≤ x) (x1 : x ≤ 1048576) :
    0 ≤ (max (a - x) (max (x - d) 0)) * (max (a - x) (max (x - d) 0)) ∧ (max (a - x) (max (x - d) 0)) * (max (a - x) (max (x - d) 0)) ≤ (max (d - x) (x - a)) * (max (d - x) (x - a)) ∧ (max (d - x) (x - a)) * (max (d - x) (x - a)) ≤ 4398046511104 := by
  have n0 : 0 ≤ max (a - x) (max (x - d) 0) := by omega
  have ng : max (a - x) (max (x - d) 0) ≤ max (d - x) (x - a) := by omega
  have g9 : max (d - x) (x - a) ≤ 2097152 := by omega
  generalize max (a - x) (max (x - d) 0) = u at *
  generalize max (d - x) (x - a) = v at *
  exact ⟨Int.mul_nonneg n0 n0, Int.mul_le_mul ng ng n0 (by omega), Int.le_trans (Int.mul_le_mul g9 g9 (by omega) (by decide)) (by decide)⟩
theorem near_far {a b c d e f x y z : Int} (h1 : Geo.BV a b c d e f) (h2 : Geo.PV x y z) : 0 ≤ Geo.near3 a b c d e f x y z ∧ Geo.near3 a b c d e f x y z ≤ Geo.far3 a b c d e f x y z ∧ Geo.far3 a b c d e f x y z ≤ 13194139533312 := by
  obtain ⟨⟨ax0, ax1, ay0, ay1, az0, az1⟩, ⟨dx0, dx1, dy0, dy1, dz0, dz1⟩, hx, hy, hz⟩ := h1
  obtain ⟨px0, px1, py0, py1, pz0, pz1⟩ := h2
  obtain ⟨r1, r2, r3⟩ := nf1 hx ax0 dx1 px0 px1
  obtain ⟨r4, r5, r6⟩ := nf1 hy ay0 dy1 py0 py1
  obtain ⟨r7, r8, r9⟩ := nf1 hz (by omega) dz1 (by omega) pz1
  unfold Geo.near3 Geo.far3
  omega
theorem tc {w : World} {g : Nat} {x y z : Value} {t : TypeId} (h : w.heap[g]? = some (.cells #[x, y, z] t (0, 0))) : w.cell? ⟨g, 0, none⟩ = some x ∧ w.cell? ⟨g, 1, none⟩ = some y ∧ w.cell? ⟨g, 2, none⟩ = some z :=
  ⟨cell_of_row w g 0 _ _ _ h, cell_of_row w g 1 _ _ _ h, cell_of_row w g 2 _ _ _ h⟩
set_option maxHeartbeats 2000000 in
set_option maxRecDepth 100000 in
theorem distances_ok (a b c d e f x y z : Int) (h1 : Geo.BV a b c d e f) (h2 : Geo.PV x y z) (w : World) :
    Calls Try.prog 83 #[.agg #[.int .i64 a, .int .i64 b, .int .i64 c, .int .i64 d, .int .i64 e, .int .i64 f], .agg #[.int .i64 x, .int .i64 y, .int .i64 z]] w fun r w' => r = .returned (.tuple #[.int .i64 (Geo.near3 a b c d e f x y z), .int .i64 (Geo.far3 a b c d e f x y z)]) ∧ Below w.heap.size w w' := by
  have N := Lib.hid fun w => Geo.near_yes a b c d e f x y z h1 h2 w
  have F := Lib.hid fun w => Geo.far_yes a b c d e f x y z h1 h2 w
  have p1 := Lib.hid (Geo.blk_alloc (Geo.blk_new w (.cells #[.int .i64 a, .int .i64 b, .int .i64 c, .int .i64 d, .int .i64 e, .int .i64 f] 26 )) (.cells #[.int .i64 x, .int .i64 y, .int .i64 z] 24 ))
  have p2 := Lib.hid (Geo.blk_new1 w (.cells #[.int .i64 a, .int .i64 b, .int .i64 c, .int .i64 d, .int .i64 e, .int .i64 f] 26 ) (.cells #[.int .i64 x, .int .i64 y, .int .i64 z] 24 ))
  have hA : Hid (Below w.heap.size w ((w.alloc (.cells #[.int .i64 a, .int .i64 b, .int .i64 c, .int .i64 d, .int .i64 e, .int .i64 f] 26 )).alloc (.cells #[.int .i64 x, .int .i64 y, .int .i64 z] 24 ))) := Lib.hid (Buf.then_ (Geo.new_block _) (Geo.new_block _))
  generalize Geo.near3 a b c d e f x y z = nn at *
  generalize Geo.far3 a b c d e f x y z = ff at *
  clear h1 h2
  go_enter Try.func83, Try.ntmps83
  go_wp2_with fail
  obtain ⟨w2, hw2⟩ : ∃ w2, w2 = (w.alloc (.cells #[.int .i64 a, .int .i64 b, .int .i64 c, .int .i64 d, .int .i64 e, .int .i64 f] 26 )).alloc (.cells #[.int .i64 x, .int .i64 y, .int .i64 z] 24 ) := ⟨_, rfl⟩
  rw [← hw2] at p1 p2 hA ⊢
  clear hw2
  refine Buf.region_calm w2 (by kernel_rfl) (by kernel_rfl) (Below.refl _ _) ?_
  repeat (go_big_quiet_step ((intro hC; first
    | (go_at_call 98; (with_reducible exact Buf.calm hC (N.out _)))
    | (go_at_call 99; (with_reducible exact Buf.calm hC (F.out _)))
    | rfl
    | (simp only [(Geo.cells6 (Geo.blk_b hC p1.out)).1, (Geo.cells6 (Geo.blk_b hC p1.out)).2.1, (Geo.cells6 (Geo.blk_b hC p1.out)).2.2.1, (Geo.cells6 (Geo.blk_b hC p1.out)).2.2.2.1, (Geo.cells6 (Geo.blk_b hC p1.out)).2.2.2.2.1, (Geo.cells6 (Geo.blk_b hC p1.out)).2.2.2.2.2, Result.andThen_ok]; first | exact ⟨trivial, rfl⟩ | rfl)
    | (simp only [(tc (Geo.blk_b hC p2.out)).1, (tc (Geo.blk_b hC p2.out)).2.1, (tc (Geo.blk_b hC p2.out)).2.2, Result.andThen_ok]; first | exact ⟨trivial, rfl⟩ | rfl))))
  refine wpQuiet_nil ?_
  intro w3 hc
  go_wp2
  go_ret2
  exact ⟨rfl, Buf.then_ hA.out hc⟩
theorem clo (s : Int) (b1 b2 n c1 c2 : Nat) (nn ff u v : Int) (p : Nat) (w : World) (hp : w.heap[p]? = some (.cells #[.int .i64 s, .slice (some ⟨b1, 0, none⟩) n c1, .slice (some ⟨b2, 0, none⟩) n c2] 33 (0, 0)))
    (B : Calls Try.prog 82 #[.agg #[.int .i64 s, .slice (some ⟨b1, 0, none⟩) n c1, .slice (some ⟨b2, 0, none⟩) n c2], .int .i64 nn, .int .i64 ff] w fun r w' => r = .returned (.tuple #[.int .i64 u, .int .i64 v, .int .i64 0]) ∧ Below w.heap.size w w') :
    Calls Try.prog 81 #[.int .i64 nn, .int .i64 ff, .pointer (some ⟨p, 0, none⟩)] w fun r w' => r = .returned (.tuple #[.int .i64 u, .int .i64 v, .int .i64 0]) ∧ Below w.heap.size w w' := by
  have B' := Lib.hid B
  clear B
  obtain ⟨k1, k2, k3⟩ := tc hp
  go_enter Try.func81, Try.ntmps81
  go_wp2_with fail
  refine B'.out.mono ?_
  rintro r w3 ⟨rfl, hc⟩
  replace hc := Lib.hid hc
  go_wp2
  go_ret3
  exact ⟨rfl, hc.out⟩
theorem bel3 (w : World) (o p q : Obj) : Below w.heap.size w (((w.alloc o).alloc p).alloc q) := Buf.then_ (Buf.then_ (Geo.new_block o) (Geo.new_block p)) (Geo.new_block q)
set_option maxHeartbeats 2000000 in
set_option maxRecDepth 100000 in
theorem interval_ok (s : Int) (b1 b2 n c1 c2 : Nat) (lo hi : List Int) (a b c d e f x y z : Int) (q1 q2 : Nat) (w : World) (h : Trav.TV w s b1 b2 n lo hi) (h1 : Geo.BV a b c d e f) (h2 : Geo.PV x y z) (hr : Root.ce (Geo.far3 a b c d e f x y z) ≤ s * ((n : Int) - 1))
    (e1 : (q1 : Int) = Root.rt (Geo.near3 a b c d e f x y z) 32 / s) (e2 : (q2 : Int) = (Root.ce (Geo.far3 a b c d e f x y z) + s - 1) / s) :
    Calls Try.prog 71 #[.agg #[.int .i64 s, .slice (some ⟨b1, 0, none⟩) n c1, .slice (some ⟨b2, 0, none⟩) n c2], .agg #[.int .i64 a, .int .i64 b, .int .i64 c, .int .i64 d, .int .i64 e, .int .i64 f], .agg #[.int .i64 x, .int .i64 y, .int .i64 z]] w fun r w' => r = .returned (.tuple #[.int .i64 (lo.getD q1 0), .int .i64 (hi.getD q2 0), .int .i64 0]) ∧ Below w.heap.size w w' := by
  obtain ⟨m0, m1, m9⟩ := near_far h1 h2
  have B := Lib.hid fun w h => Trav.between_ok s b1 b2 n c1 c2 lo hi _ _ q1 q2 w h m0 m1 (by omega) hr e1 e2
  have D := Lib.hid fun w => distances_ok a b c d e f x y z h1 h2 w
  have V1 := Lib.hid fun w => Geo.validBox_yes a b c d e f h1 w
  have V2 := Lib.hid fun w => Geo.valid_yes x y z h2 w
  have tv := Lib.hid (h.below (bel3 w (.cells #[.int .i64 s, .slice (some ⟨b1, 0, none⟩) n c1, .slice (some ⟨b2, 0, none⟩) n c2] 33 ) (.cells #[.int .i64 a, .int .i64 b, .int .i64 c, .int .i64 d, .int .i64 e, .int .i64 f] 26 ) (.cells #[.int .i64 x, .int .i64 y, .int .i64 z] 24 )))
  have hA := Lib.hid (bel3 w (.cells #[.int .i64 s, .slice (some ⟨b1, 0, none⟩) n c1, .slice (some ⟨b2, 0, none⟩) n c2] 33 ) (.cells #[.int .i64 a, .int .i64 b, .int .i64 c, .int .i64 d, .int .i64 e, .int .i64 f] 26 ) (.cells #[.int .i64 x, .int .i64 y, .int .i64 z] 24 ))
  have p1 := Lib.hid (Geo.blk_alloc (Geo.blk_alloc (Geo.blk_new w (.cells #[.int .i64 s, .slice (some ⟨b1, 0, none⟩) n c1, .slice (some ⟨b2, 0, none⟩) n c2] 33 )) (.cells #[.int .i64 a, .int .i64 b, .int .i64 c, .int .i64 d, .int .i64 e, .int .i64 f] 26 )) (.cells #[.int .i64 x, .int .i64 y, .int .i64 z] 24 ))
  have p2 := Lib.hid (Geo.blk_alloc (Geo.blk_new1 w (.cells #[.int .i64 s, .slice (some ⟨b1, 0, none⟩) n c1, .slice (some ⟨b2, 0, none⟩) n c2] 33 ) (.cells #[.int .i64 a, .int .i64 b, .int .i64 c, .int .i64 d, .int .i64 e, .int .i64 f] 26 )) (.cells #[.int .i64 x, .int .i64 y, .int .i64 z] 24 ))
  have p3 := Lib.hid (Geo.blk_new2 w (.cells #[.int .i64 s, .slice (some ⟨b1, 0, none⟩) n c1, .slice (some ⟨b2, 0, none⟩) n c2] 33 ) (.cells #[.int .i64 a, .int .i64 b, .int .i64 c, .int .i64 d, .int .i64 e, .int .i64 f] 26 ) (.cells #[.int .i64 x, .int .i64 y, .int .i64 z] 24 ))
  generalize Geo.near3 a b c d e f x y z = nn at *
  generalize Geo.far3 a b c d e f x y z = ff at *
  clear h h1 h2 hr e1 e2
  go_enter Try.func71, Try.ntmps71
  go_wp2_with fail
  obtain ⟨w2, hw2⟩ : ∃ w2, w2 = ((w.alloc (.cells #[.int .i64 s, .slice (some ⟨b1, 0, none⟩) n c1, .slice (some ⟨b2, 0, none⟩) n c2] 33 )).alloc (.cells #[.int .i64 a, .int .i64 b, .int .i64 c, .int .i64 d, .int .i64 e, .int .i64 f] 26 )).alloc (.cells #[.int .i64 x, .int .i64 y, .int .i64 z] 24 ) := ⟨_, rfl⟩
  rw [← hw2] at p1 p2 p3 hA tv ⊢
  clear hw2
  obtain ⟨k1, k2, k3, k4, k5, k6⟩ := Geo.cells6 p2.out
  go_wp2_with fail
  refine (V1.out _).mono ?_
  rintro r w3 ⟨rfl, hc⟩
  replace p1 := Lib.hid (Geo.blk_b hc p1.out)
  replace p2 := Lib.hid (Geo.blk_b hc p2.out)
  replace p3 := Lib.hid (Geo.blk_b hc p3.out)
  replace tv := Lib.hid (tv.out.below hc)
  replace hA := Lib.hid (Buf.then_ hA.out hc)
  clear hc V1 k1 k2 k3 k4 k5 k6
  obtain ⟨l1, l2, l3⟩ := tc p3.out
  go_wp2_with fail
  refine (V2.out _).mono ?_
  rintro r w4 ⟨rfl, hc⟩
  replace p1 := Lib.hid (Geo.blk_b hc p1.out)
  replace p2 := Lib.hid (Geo.blk_b hc p2.out)
  replace p3 := Lib.hid (Geo.blk_b hc p3.out)
  replace tv := Lib.hid (tv.out.below hc)
  replace hA := Lib.hid (Buf.then_ hA.out hc)
  clear hc V2 l1 l2 l3
  obtain ⟨k1, k2, k3, k4, k5, k6⟩ := Geo.cells6 p2.out
  obtain ⟨l1, l2, l3⟩ := tc p3.out
  go_wp2_with fail
  refine (D.out _).mono ?_
  rintro r w5 ⟨rfl, hc⟩
  replace p1 := Lib.hid (Geo.blk_b hc p1.out)
  replace p2 := Lib.hid (Geo.blk_b hc p2.out)
  replace p3 := Lib.hid (Geo.blk_b hc p3.out)
  replace tv := Lib.hid (tv.out.below hc)
  replace hA := Lib.hid (Buf.then_ hA.out hc)
  clear hc D k1 k2 k3 k4 k5 k6 l1 l2 l3
  have C := Lib.hid (clo s b1 b2 n c1 c2 nn ff _ _ _ w5 p1.out (B.out w5 tv.out))
  go_wp2_with fail
  refine C.out.mono ?_
  rintro r w6 ⟨rfl, hc⟩
  replace hA := Lib.hid (Buf.then_ hA.out hc)
  clear hc C B p1 p2 p3 tv
  go_wp2
  go_ret3
  exact ⟨rfl, hA.out⟩
end Bound
end Go.Proofs.Ytldgihlhioeipaa
