/- seismonetlaw29.bent: a location in which one thing is changed. -/
import Derived.Test.YtldgihlhioeipaaLlGQ
import Derived.Test.YtldgihlhioeipaaRefA
import Derived.Test.YtldgihlhioeipaaPlacBC
import Derived.Test.YtldgihlhioeipaaInvAB
import Derived.Laws.ResultCell
import Derived.Deep.DeepCutAuto
set_option linter.unusedVariables false
set_option linter.unusedSimpArgs false
namespace Go.Proofs.Ytldgihlhioeipaa
open Go.RowKit Qt
namespace Loc
namespace Prf
theorem row_one {P : Program} {fn : Func} {p : Tmp} {ty : TypeId} (h : fn.results = #[.cell p ty]) (tmps : Array Value) (w : World) (g : Nat) (t : TypeId) (cs : Array Value) (fr : Nat × Nat) (d : TypeDesc)
    (hp : tmps.getD p undef = .pointer (some ⟨g, 0, none⟩)) (hg : w.heap[g]? = some (.cells cs t fr))
    (hu : P.underlying ty = some d) (hd : (match d with | .struct _ | .array _ _ => true | _ => false) = true) (hi : (P.info? ty).map (·.size) = some cs.size) :
    (results fn tmps).run P w = .ok (.agg cs) w := by
  have hp' : tmps[p]?.getD undef = .pointer (some ⟨g, 0, none⟩) := by simpa using hp
  simp [results, h, hp', asAddr, run_loadVar_row w g t ty cs fr d hg hu hd hi]
set_option maxHeartbeats 16000000 in
set_option maxRecDepth 100000 in
theorem bent29_any {W w : World} {g : Nat} {a : Option Addr} {len cap : Nat} {zs : List Int} (HD : Src.Di W w g a len cap zs) (R : Bx) (q : Pq) (bv : Geo.BV R.a R.b R.c R.d R.e R.f)
    (AT : ∀ w', Src.Left W w w' g a len cap zs → ∀ p, inB R p → ∃ t m : Int, Calls Try.prog 26 #[.agg #[.int .i64 R.a, .int .i64 R.b, .int .i64 R.c, .int .i64 R.d, .int .i64 R.e, .int .i64 R.f, .int .i64 q.s, .slice (some ⟨q.b1, 0, none⟩) q.n q.c1, .slice (some ⟨q.b2, 0, none⟩) q.n2 q.c2, .slice (some ⟨q.gp, 0, none⟩) q.nl q.cc, .int .i64 q.cap], .agg #[.int .i64 p.1, .int .i64 p.2.1, .int .i64 p.2.2]] w' fun e w'' => e = .returned (.tuple #[.int .i64 t, .int .i64 m, .int .i64 0]) ∧ Below w'.heap.size w' w'')
    (y1 y2 y3 y4 y5 y6 y7 y8 y9 y10 y11 y12 : Int) :
    Calls Try.prog 9 #[.pointer (some ⟨g, 0, none⟩), .agg #[.int .i64 R.a, .int .i64 R.b, .int .i64 R.c, .int .i64 R.d, .int .i64 R.e, .int .i64 R.f, .int .i64 q.s, .slice (some ⟨q.b1, 0, none⟩) q.n q.c1, .slice (some ⟨q.b2, 0, none⟩) q.n2 q.c2, .slice (some ⟨q.gp, 0, none⟩) q.nl q.cc, .int .i64 q.cap], .agg #[.int .i64 y1, .int .i64 y2, .int .i64 y3, .int .i64 y4, .int .i64 y5, .int .i64 y6, .int .i64 y7, .int .i64 y8, .int .i64 y9, .int .i64 y10, .int .i64 y11, .int .i64 y12]] w fun e w' => (∃ z1 z2 z3 z4 z5 z6 z7 z8 z9 z10 z11 z12 : Int, e = .returned (.agg #[.int .i64 z1, .int .i64 z2, .int .i64 z3, .int .i64 z4, .int .i64 z5, .int .i64 z6, .int .i64 z7, .int .i64 z8, .int .i64 z9, .int .i64 z10, .int .i64 z11, .int .i64 z12])) ∧ Src.Left W w w' g a len cap zs := by
  have hg := HD.lt
  obtain ⟨w1, hw1⟩ : ∃ z, z = ((w.alloc (.cells #[.int .i64 R.a, .int .i64 R.b, .int .i64 R.c, .int .i64 R.d, .int .i64 R.e, .int .i64 R.f, .int .i64 q.s, .slice (some ⟨q.b1, 0, none⟩) q.n q.c1, .slice (some ⟨q.b2, 0, none⟩) q.n2 q.c2, .slice (some ⟨q.gp, 0, none⟩) q.nl q.cc, .int .i64 q.cap] 36)).alloc (.cells #[.int .i64 y1, .int .i64 y2, .int .i64 y3, .int .i64 y4, .int .i64 y5, .int .i64 y6, .int .i64 y7, .int .i64 y8, .int .i64 y9, .int .i64 y10, .int .i64 y11, .int .i64 y12] 28)).alloc (.cells #[.int .i64 0, .int .i64 0, .int .i64 0, .int .i64 0, .int .i64 0, .int .i64 0, .int .i64 0, .int .i64 0, .int .i64 0, .int .i64 0, .int .i64 0, .int .i64 0] 28) := ⟨_, rfl⟩
  have e1 : (w.alloc (.cells #[.int .i64 R.a, .int .i64 R.b, .int .i64 R.c, .int .i64 R.d, .int .i64 R.e, .int .i64 R.f, .int .i64 q.s, .slice (some ⟨q.b1, 0, none⟩) q.n q.c1, .slice (some ⟨q.b2, 0, none⟩) q.n2 q.c2, .slice (some ⟨q.gp, 0, none⟩) q.nl q.cc, .int .i64 q.cap] 36)).heap.size = w.heap.size + 1 := by simp
  have e2 : ((w.alloc (.cells #[.int .i64 R.a, .int .i64 R.b, .int .i64 R.c, .int .i64 R.d, .int .i64 R.e, .int .i64 R.f, .int .i64 q.s, .slice (some ⟨q.b1, 0, none⟩) q.n q.c1, .slice (some ⟨q.b2, 0, none⟩) q.n2 q.c2, .slice (some ⟨q.gp, 0, none⟩) q.nl q.cc, .int .i64 q.cap] 36)).alloc (.cells #[.int .i64 y1, .int .i64 y2, .int .i64 y3, .int .i64 y4, .int .i64 y5, .int .i64 y6, .int .i64 y7, .int .i64 y8, .int .i64 y9, .int .i64 y10, .int .i64 y11, .int .i64 y12] 28)).heap.size = w.heap.size + 2 := by simp
  have N1 : Below w.heap.size w w1 := by rw [hw1]; exact ((Mis.new_block _).alloc (by omega) _).alloc (by omega) _
  have K4 : w1.heap[w.heap.size]? = some (.cells #[.int .i64 R.a, .int .i64 R.b, .int .i64 R.c, .int .i64 R.d, .int .i64 R.e, .int .i64 R.f, .int .i64 q.s, .slice (some ⟨q.b1, 0, none⟩) q.n q.c1, .slice (some ⟨q.b2, 0, none⟩) q.n2 q.c2, .slice (some ⟨q.gp, 0, none⟩) q.nl q.cc, .int .i64 q.cap] 36 (0, 0)) := by rw [hw1]; exact Mis.hb (Mis.new_block _) (Mis.hb (Mis.new_block _) (heap_alloc_new w _))
  have K5 : w1.heap[w.heap.size + 1]? = some (.cells #[.int .i64 y1, .int .i64 y2, .int .i64 y3, .int .i64 y4, .int .i64 y5, .int .i64 y6, .int .i64 y7, .int .i64 y8, .int .i64 y9, .int .i64 y10, .int .i64 y11, .int .i64 y12] 28 (0, 0)) := by rw [hw1, ← e1]; exact Mis.hb (Mis.new_block _) (heap_alloc_new _ _)
  have K6 : w1.heap[w.heap.size + 1 + 1]? = some (.cells #[.int .i64 0, .int .i64 0, .int .i64 0, .int .i64 0, .int .i64 0, .int .i64 0, .int .i64 0, .int .i64 0, .int .i64 0, .int .i64 0, .int .i64 0, .int .i64 0] 28 (0, 0)) := by rw [hw1]; show _[w.heap.size + 2]? = _; rw [← e2]; exact heap_alloc_new _ _
  clear e1 e2
  have L1 := Lib.hid ((Src.Left.refl HD).below N1)
  obtain ⟨p4, hp4⟩ : ∃ z, z = w.heap.size := ⟨_, rfl⟩
  obtain ⟨p5, hp5⟩ : ∃ z, z = w.heap.size + 1 := ⟨_, rfl⟩
  obtain ⟨p6, hp6⟩ : ∃ z, z = w.heap.size + 1 + 1 := ⟨_, rfl⟩
  rw [← hp4] at K4
  rw [← hp5] at K5
  rw [← hp6] at K6
  replace K4 := Lib.hid K4
  replace K5 := Lib.hid K5
  replace K6 := Lib.hid K6
  replace AT := Lib.hid AT
  replace HD := Lib.hid HD
  have PQ := Lib.hid bv
  have ne4 : p4 ≠ g := by omega
  have ne5 : p5 ≠ g := by omega
  have ne6 : p6 ≠ g := by omega
  have h5 : w.heap.size ≤ p5 := by omega
  have h6 : w.heap.size ≤ p6 := by omega
  have n56 : p6 ≠ p5 := by omega
  have n54 : p4 ≠ p5 := by omega
  clear N1 bv
  go_enter Try.func9, Try.ntmps9
  go_upto_region 1 with fail
  rw [← hw1, ← hp6, ← hp5, ← hp4]
  clear hw1 hp4 hp5 hp6 hg
  go_wp2_with fail
  refine (Src.n_any 6 L1.out.di (by decide) (by decide)).mono ?_
  rintro e wq ⟨⟨v, rfl, v0, v5⟩, lq⟩
  have LB := Lib.hid (L1.out.trans lq)
  have K4q := Lib.hid (lq.blk K4.out ne4)
  have K5q := Lib.hid (lq.blk K5.out ne5)
  have K6q := Lib.hid (lq.blk K6.out ne6)
  have RXq := Lib.hid (Mid.range K4q.out 0 [.int .i64 R.a, .int .i64 R.b, .int .i64 R.c, .int .i64 R.d, .int .i64 R.e, .int .i64 R.f] (by rfl))
  have RA := Lib.hid (Mid.range K5q.out 6 [.int .i64 y7, .int .i64 y8, .int .i64 y9, .int .i64 y10, .int .i64 y11, .int .i64 y12] (by rfl))
  have PO := Lib.hid (Src.point_any R.a R.b R.c R.d R.e R.f PQ.out LB.out.di)
  clear lq L1 K4 K5 K6
  by_cases v_0 : v = 0
  · subst v_0
    go_upto_region 5 with (first | ((with_reducible refine Mid.ldm 26 (.tmp 15) p4 0 [.int .i64 R.a, .int .i64 R.b, .int .i64 R.c, .int .i64 R.d, .int .i64 R.e, .int .i64 R.f] RXq.out ?_ ?_ ?_ ?_ ?_ ?_); (· rfl); (· rfl); (· first | rfl | simp [Act.eval]); (· exact ⟨_, rfl, rfl⟩); (· kernel_rfl)) | (go_at_call 20; refine PO.out.mono ?_; rintro e w3 ⟨⟨x1, x2, x3, rfl, q1, q2, q3, q4, q5, q6⟩, l3⟩; have L3 := Lib.hid (LB.out.trans l3); have K43 := Lib.hid (l3.blk K4q.out ne4); have K53 := Lib.hid (l3.blk K5q.out ne5); have K63 := Lib.hid (l3.blk K6q.out ne6); have T3 := Lib.hid (Mid.there K53.out 0 3 (show 0 + 3 ≤ 12 by decide)); clear l3) | ((with_reducible refine Mid.stm 24 (.tmp 18) (.tmp 17) p5 0 3 [.int .i64 x1, .int .i64 x2, .int .i64 x3] T3.out ?_ ?_ ?_ ?_ ?_ ?_ ?_ ?_); (· rfl); (· rfl); (· first | rfl | simp [Act.eval]); (· first | rfl | simp [Act.eval]); (· rfl); (· kernel_rfl); (· simp [Value.oneCell'])))
    try simp only [Act.put]
    have KY : Hid ((w3.setCells p5 0 [.int .i64 x1, .int .i64 x2, .int .i64 x3]).heap[p5]? = some (.cells #[.int .i64 x1, .int .i64 x2, .int .i64 x3, .int .i64 y4, .int .i64 y5, .int .i64 y6, .int .i64 y7, .int .i64 y8, .int .i64 y9, .int .i64 y10, .int .i64 y11, .int .i64 y12] 28 (0, 0))) := Lib.hid (Mid.heap_set p5 28 [.int .i64 x1, .int .i64 x2, .int .i64 x3] 0 w3 _ K53.out)
    have KZ := Lib.hid ((Mid.other p5 p6 (by omega) [.int .i64 x1, .int .i64 x2, .int .i64 x3] 0 w3).trans K63.out)
    have KX := Lib.hid ((Mid.other p5 p4 (by omega) [.int .i64 x1, .int .i64 x2, .int .i64 x3] 0 w3).trans K43.out)
    have LY : Hid (Src.Left W w (w3.setCells p5 0 [.int .i64 x1, .int .i64 x2, .int .i64 x3]) g a len cap zs) := Lib.hid (Src.Left.past HD.out L3.out (Mid.below _ _ _ h5 [.int .i64 x1, .int .i64 x2, .int .i64 x3] 0 _ (Below.refl _ _)))
    obtain ⟨w4, hw4⟩ : ∃ z, z = w3.setCells p5 0 [.int .i64 x1, .int .i64 x2, .int .i64 x3] := ⟨_, rfl⟩
    rw [← hw4] at KY KZ KX LY ⊢
    have RX2 := Lib.hid (Mid.range KY.out 0 [.int .i64 x1, .int .i64 x2, .int .i64 x3] (by rfl))
    obtain ⟨t1, m1, AC⟩ := AT.out w4 LY.out (x1, x2, x3) ⟨q1, q2, q3, q4, q5, q6⟩
    replace AC := Lib.hid AC
    clear hw4 K43 K53 K63 T3 L3 q1 q2 q3 q4 q5 q6 PO AT
    go_upto_region 14 with (first | ((with_reducible refine Mid.ldr 36 (.tmp 4) p4 36 #[.int .i64 R.a, .int .i64 R.b, .int .i64 R.c, .int .i64 R.d, .int .i64 R.e, .int .i64 R.f, .int .i64 q.s, .slice (some ⟨q.b1, 0, none⟩) q.n q.c1, .slice (some ⟨q.b2, 0, none⟩) q.n2 q.c2, .slice (some ⟨q.gp, 0, none⟩) q.nl q.cc, .int .i64 q.cap] KX.out ?_ ?_ ?_ ?_ ?_ ?_); (· rfl); (· rfl); (· first | rfl | simp [Act.eval]); (· exact ⟨_, rfl, rfl⟩); (· kernel_rfl)) | ((with_reducible refine Mid.ldm 24 (.tmp 21) p5 0 [.int .i64 x1, .int .i64 x2, .int .i64 x3] RX2.out ?_ ?_ ?_ ?_ ?_ ?_); (· rfl); (· rfl); (· first | rfl | simp [Act.eval]); (· exact ⟨_, rfl, rfl⟩); (· kernel_rfl)) | (go_at_call 26; refine AC.out.mono ?_; rintro e w5 ⟨rfl, b5⟩; have L5 := Lib.hid (LY.out.below b5); have KY5 := Lib.hid (Mis.hb b5 KY.out); have KZ5 := Lib.hid (Mis.hb b5 KZ.out); have c3 : w5.cell? ⟨p5, 3, none⟩ = some (.int .i64 y4) := cell_of_row w5 p5 3 _ _ _ KY5.out; have f3 := frozen_of_row w5 p5 3 _ _ KY5.out; have K53 : Hid ((w5.setCell ⟨p5, 3, none⟩ (.int .i64 t1)).heap[p5]? = some (.cells #[.int .i64 x1, .int .i64 x2, .int .i64 x3, .int .i64 t1, .int .i64 y5, .int .i64 y6, .int .i64 y7, .int .i64 y8, .int .i64 y9, .int .i64 y10, .int .i64 y11, .int .i64 y12] 28 (0, 0))) := Lib.hid (heap_setCell_same w5 p5 3 _ _ (.int .i64 t1) KY5.out); have c4 : (w5.setCell ⟨p5, 3, none⟩ (.int .i64 t1)).cell? ⟨p5, 4, none⟩ = some (.int .i64 y5) := cell_of_row _ p5 4 _ _ _ K53.out; have f4 := frozen_of_row (w5.setCell ⟨p5, 3, none⟩ (.int .i64 t1)) p5 4 _ _ K53.out; clear b5))
    have KF : Hid (((w5.setCell ⟨p5, 3, none⟩ (.int .i64 t1)).setCell ⟨p5, 4, none⟩ (.int .i64 m1)).heap[p5]? = some (.cells #[.int .i64 x1, .int .i64 x2, .int .i64 x3, .int .i64 t1, .int .i64 m1, .int .i64 y6, .int .i64 y7, .int .i64 y8, .int .i64 y9, .int .i64 y10, .int .i64 y11, .int .i64 y12] 28 (0, 0))) := Lib.hid (heap_setCell_same (w5.setCell ⟨p5, 3, none⟩ (.int .i64 t1)) p5 4 _ _ (.int .i64 m1) K53.out)
    have KG := Lib.hid ((Below.heap_setCell (w5.setCell ⟨p5, 3, none⟩ (.int .i64 t1)) ⟨p5, 4, none⟩ (.int .i64 m1) p6 (by omega)).trans ((Below.heap_setCell w5 ⟨p5, 3, none⟩ (.int .i64 t1) p6 (by omega)).trans KZ5.out))
    have LG : Hid (Src.Left W w ((w5.setCell ⟨p5, 3, none⟩ (.int .i64 t1)).setCell ⟨p5, 4, none⟩ (.int .i64 m1)) g a len cap zs) := Lib.hid (Src.Left.past HD.out L5.out (((Below.refl _ _).setCell (p := ⟨p5, 3, none⟩) h5 (.int .i64 t1)).setCell (p := ⟨p5, 4, none⟩) h5 (.int .i64 m1)))
    obtain ⟨w6, hw6⟩ : ∃ z, z = (w5.setCell ⟨p5, 3, none⟩ (.int .i64 t1)).setCell ⟨p5, 4, none⟩ (.int .i64 m1) := ⟨_, rfl⟩
    rw [← hw6] at KF KG LG ⊢
    clear hw6 KY5 KZ5 L5 K53 c3 c4 f3 f4 KY KZ KX LY RX2
    go_wp2_with (first | ((with_reducible refine Mid.ldr 28 (.tmp 5) p5 28 #[.int .i64 x1, .int .i64 x2, .int .i64 x3, .int .i64 t1, .int .i64 m1, .int .i64 y6, .int .i64 y7, .int .i64 y8, .int .i64 y9, .int .i64 y10, .int .i64 y11, .int .i64 y12] KF.out ?_ ?_ ?_ ?_ ?_ ?_); (· rfl); (· rfl); (· first | rfl | simp [Act.eval]); (· exact ⟨_, rfl, rfl⟩); (· kernel_rfl)) | ((with_reducible refine Mid.str 28 (.tmp 6) (.tmp 63) p6 28 #[.int .i64 0, .int .i64 0, .int .i64 0, .int .i64 0, .int .i64 0, .int .i64 0, .int .i64 0, .int .i64 0, .int .i64 0, .int .i64 0, .int .i64 0, .int .i64 0] #[.int .i64 x1, .int .i64 x2, .int .i64 x3, .int .i64 t1, .int .i64 m1, .int .i64 y6, .int .i64 y7, .int .i64 y8, .int .i64 y9, .int .i64 y10, .int .i64 y11, .int .i64 y12] KG.out ?_ ?_ ?_ ?_ ?_ ?_ ?_ ?_); (· rfl); (· rfl); (· first | rfl | simp [Act.eval]); (· first | rfl | simp [Act.eval]); (· kernel_rfl); (· rfl); (· simp [Value.oneCell'])))
    try simp only [Act.put]
    have ZF : (w6.setRow p6 #[.int .i64 x1, .int .i64 x2, .int .i64 x3, .int .i64 t1, .int .i64 m1, .int .i64 y6, .int .i64 y7, .int .i64 y8, .int .i64 y9, .int .i64 y10, .int .i64 y11, .int .i64 y12]).heap[p6]? = some (.cells #[.int .i64 x1, .int .i64 x2, .int .i64 x3, .int .i64 t1, .int .i64 m1, .int .i64 y6, .int .i64 y7, .int .i64 y8, .int .i64 y9, .int .i64 y10, .int .i64 y11, .int .i64 y12] 28 (0, 0)) := setRow_heap _ _ _ _ _ _ KG.out
    refine bodyPost_ret (row_one rfl _ _ p6 _ _ _ _ rfl ZF rfl (by rfl) rfl) rfl ?_
    exact ⟨⟨_, _, _, _, _, _, _, _, _, _, _, _, rfl⟩, Src.Left.past HD.out LG.out (Mid.below_row (Below.refl _ _) _ _ h6)⟩
  by_cases v_1 : v = 1
  · subst v_1
    clear PO AT
    go_upto_region 7 with fail
    refine wp_region_noPanic ?_
    refine wp_region_any (by kernel_rfl) ?_
    refine Inv.wpAny_inv (fun k => k == 7) [31, 32, 33, 34, 35, 36, 37] (fun w' => Src.Left W wq w' g a len cap zs) (fun _ w1 w2 => Src.Left W w1 w2 g a len cap zs) (fun k => ([fun v_ w_ => v_ = .pointer (some ⟨p5, 3, none⟩), fun v_ w_ => v_ = .int .i64 y4, fun v_ w_ => v_ = .pointer (some ⟨g, 0, none⟩), fun v_ w_ => ∃ u : Int, v_ = .int .i64 u ∧ 0 ≤ u ∧ u < 3, fun v_ w_ => ∃ u : Int, v_ = .int .i64 u, fun v_ w_ => ∃ u : Int, v_ = .int .i64 u, fun v_ w_ => v_ = .pointer (some ⟨p5, 3, none⟩), fun v_ w_ => True] : List (Value → World → Prop)).getD k (fun _ _ => True)) _ (fun σ => by simp only [Inv.putAll, List.foldl_cons, List.foldl_nil, Act.put, List.setIfInBounds_toArray, List.set_cons_zero, List.set_cons_succ]; rfl) (by kernel_rfl) (by kernel_rfl) ?_ ((Src.Left.refl LB.out.di).drew) ?_ ?_ 1 #[true, true, true, true, true, true, true, false] (by kernel_rfl) (by kernel_rfl) ?_
    · intro j k v w1 w2 hjk hv hr
      rcases k with _ | k
      · exact hv
      rcases k with _ | k
      · exact hv
      rcases k with _ | k
      · exact hv
      rcases k with _ | k
      · exact hv
      rcases k with _ | k
      · exact hv
      rcases k with _ | k
      · exact hv
      rcases k with _ | k
      · exact hv
      rcases k with _ | k
      · exact hv
      · exact hv
    · intro k t hl hd
      rcases k with _ | k
      · exact absurd hl (by decide +kernel)
      rcases k with _ | k
      · exact absurd hl (by decide +kernel)
      rcases k with _ | k
      · exact absurd hl (by decide +kernel)
      rcases k with _ | k
      · exact absurd hl (by decide +kernel)
      rcases k with _ | k
      · exact absurd hl (by decide +kernel)
      rcases k with _ | k
      · exact absurd hl (by decide +kernel)
      rcases k with _ | k
      · exact absurd hl (by decide +kernel)
      rcases k with _ | k
      · exact absurd hl (by decide +kernel)
      · simp at hd
    · show Inv.Steps _ _ _ _ _ _ _ _ [0, 1, 2, 3, 4, 5, 6]
      refine Inv.Steps.go (by decide) (by rfl) (fun σ wx hw hd K hK => ?_) ?_
      · simp only [List.getElem_toArray, List.getElem_cons_zero, List.getElem_cons_succ, Act.put, List.setIfInBounds_toArray, List.set_cons_zero, List.set_cons_succ] at hK ⊢
        go_simp
        exact hK.out _ _ hw (Src.Left.refl hw.di) (rfl)
      refine Inv.Steps.go (by decide) (by rfl) (fun σ wx hw hd K hK => ?_) ?_
      · obtain e0 : (σ 31) = .pointer (some ⟨p5, 3, none⟩) := hd 0 (some 31) (by kernel_rfl) (by rfl)
        simp only [List.getElem_toArray, List.getElem_cons_zero, List.getElem_cons_succ, Act.put, List.setIfInBounds_toArray, List.set_cons_zero, List.set_cons_succ, e0] at hK ⊢
        have c5 := cell_of_row wx p5 3 _ _ _ (hw.blk K5q.out ne5)
        replace c5 : wx.cell? ⟨p5, 3, none⟩ = some (.int .i64 y4) := c5
        go_simp
        exact hK.out _ _ hw (Src.Left.refl hw.di) (rfl)
      refine Inv.Steps.go (by decide) (by rfl) (fun σ wx hw hd K hK => ?_) ?_
      · simp only [List.getElem_toArray, List.getElem_cons_zero, List.getElem_cons_succ, Act.put, List.setIfInBounds_toArray, List.set_cons_zero, List.set_cons_succ] at hK ⊢
        go_simp
        exact hK.out _ _ hw (Src.Left.refl hw.di) (rfl)
      refine Inv.Steps.go (by decide) (by rfl) (fun σ wx hw hd K hK => ?_) ?_
      · obtain e2 : (σ 33) = .pointer (some ⟨g, 0, none⟩) := hd 2 (some 33) (by kernel_rfl) (by rfl)
        simp only [List.getElem_toArray, List.getElem_cons_zero, List.getElem_cons_succ, Act.put, List.setIfInBounds_toArray, List.set_cons_zero, List.set_cons_succ, e2] at hK ⊢
        go_simp
        go_at_call 7
        refine (Src.n_any 3 hw.di (by decide) (by decide)).mono ?_
        rintro e_ w_ ⟨⟨u_, rfl, h0_, h1_⟩, hl_⟩
        dsimp only
        exact hK.out _ _ (hw.trans hl_) hl_ (⟨_, rfl, h0_, h1_⟩)
      refine Inv.Steps.go (by decide) (by rfl) (fun σ wx hw hd K hK => ?_) ?_
      · obtain ⟨u3, e3, u30, u31⟩ : ∃ u : Int, (σ 34) = .int .i64 u ∧ 0 ≤ u ∧ u < 3 := hd 3 (some 34) (by kernel_rfl) (by rfl)
        simp only [List.getElem_toArray, List.getElem_cons_zero, List.getElem_cons_succ, Act.put, List.setIfInBounds_toArray, List.set_cons_zero, List.set_cons_succ, e3] at hK ⊢
        go_simp
        exact hK.out _ _ hw (Src.Left.refl hw.di) (⟨_, rfl⟩)
      refine Inv.Steps.go (by decide) (by rfl) (fun σ wx hw hd K hK => ?_) ?_
      · obtain e1 : (σ 32) = .int .i64 y4 := hd 1 (some 32) (by kernel_rfl) (by rfl)
        obtain ⟨u4, e4⟩ : ∃ u : Int, (σ 35) = .int .i64 u := hd 4 (some 35) (by kernel_rfl) (by rfl)
        simp only [List.getElem_toArray, List.getElem_cons_zero, List.getElem_cons_succ, Act.put, List.setIfInBounds_toArray, List.set_cons_zero, List.set_cons_succ, e1, e4] at hK ⊢
        go_simp
        exact hK.out _ _ hw (Src.Left.refl hw.di) (⟨_, rfl⟩)
      refine Inv.Steps.go (by decide) (by rfl) (fun σ wx hw hd K hK => ?_) ?_
      · simp only [List.getElem_toArray, List.getElem_cons_zero, List.getElem_cons_succ, Act.put, List.setIfInBounds_toArray, List.set_cons_zero, List.set_cons_succ] at hK ⊢
        go_simp
        exact hK.out _ _ hw (Src.Left.refl hw.di) (rfl)
      exact Inv.Steps.nil
    · intro σ wx hw hd
      obtain ⟨u5, e5⟩ : ∃ u : Int, (σ 36) = .int .i64 u := hd 5 (some 36) (by rfl) (by rfl)
      obtain e6 : (σ 37) = .pointer (some ⟨p5, 3, none⟩) := hd 6 (some 37) (by rfl) (by rfl)
      simp only [e5, e6]
      have c5 : wx.cell? ⟨p5, 3, none⟩ = some (.int .i64 y4) := cell_of_row wx p5 3 _ _ _ (hw.blk K5q.out ne5)
      have f5 := frozen_of_row wx p5 3 _ _ (hw.blk K5q.out ne5)
      refine Inv.one (i := 7) (by decide) (by kernel_rfl) (by rfl) (fun K hK => ?_)
      simp only [List.getElem_toArray, List.getElem_cons_zero, List.getElem_cons_succ, Act.put, List.setIfInBounds_toArray, List.set_cons_zero, List.set_cons_succ] at hK ⊢
      go_simp
      refine hK.out _ _ ?_
      clear hK K
      have KY : Hid ((wx.setCell ⟨p5, 3, none⟩ (.int .i64 u5)).heap[p5]? = some (.cells #[.int .i64 y1, .int .i64 y2, .int .i64 y3, .int .i64 u5, .int .i64 y5, .int .i64 y6, .int .i64 y7, .int .i64 y8, .int .i64 y9, .int .i64 y10, .int .i64 y11, .int .i64 y12] 28 (0, 0))) := Lib.hid (heap_setCell_same wx p5 3 _ _ (.int .i64 u5) (hw.blk K5q.out ne5))
      have KZ := Lib.hid ((Below.heap_setCell wx ⟨p5, 3, none⟩ (.int .i64 u5) p6 (by omega)).trans (hw.blk K6q.out ne6))
      have LY : Hid (Src.Left W w (wx.setCell ⟨p5, 3, none⟩ (.int .i64 u5)) g a len cap zs) := Lib.hid (Src.Left.past HD.out (LB.out.trans hw) ((Below.refl _ _).setCell (p := ⟨p5, 3, none⟩) h5 (.int .i64 u5)))
      obtain ⟨wy, hwy⟩ : ∃ z, z = wx.setCell ⟨p5, 3, none⟩ (.int .i64 u5) := ⟨_, rfl⟩
      rw [← hwy] at KY KZ LY ⊢
      clear hwy c5 f5 hd hw e5 e6
      refine Inv.done (by kernel_rfl) (NoPanic.normal ?_)
      go_wp2_with (first | ((with_reducible refine Mid.ldr 28 (.tmp 5) p5 28 #[.int .i64 y1, .int .i64 y2, .int .i64 y3, .int .i64 u5, .int .i64 y5, .int .i64 y6, .int .i64 y7, .int .i64 y8, .int .i64 y9, .int .i64 y10, .int .i64 y11, .int .i64 y12] KY.out ?_ ?_ ?_ ?_ ?_ ?_); (· rfl); (· rfl); (· first | rfl | simp [Act.eval]); (· exact ⟨_, rfl, rfl⟩); (· kernel_rfl)) | ((with_reducible refine Mid.str 28 (.tmp 6) (.tmp 63) p6 28 #[.int .i64 0, .int .i64 0, .int .i64 0, .int .i64 0, .int .i64 0, .int .i64 0, .int .i64 0, .int .i64 0, .int .i64 0, .int .i64 0, .int .i64 0, .int .i64 0] #[.int .i64 y1, .int .i64 y2, .int .i64 y3, .int .i64 u5, .int .i64 y5, .int .i64 y6, .int .i64 y7, .int .i64 y8, .int .i64 y9, .int .i64 y10, .int .i64 y11, .int .i64 y12] KZ.out ?_ ?_ ?_ ?_ ?_ ?_ ?_ ?_); (· rfl); (· rfl); (· first | rfl | simp [Act.eval]); (· first | rfl | simp [Act.eval]); (· kernel_rfl); (· rfl); (· simp [Value.oneCell'])))
      try simp only [Act.put]
      have ZF : (wy.setRow p6 #[.int .i64 y1, .int .i64 y2, .int .i64 y3, .int .i64 u5, .int .i64 y5, .int .i64 y6, .int .i64 y7, .int .i64 y8, .int .i64 y9, .int .i64 y10, .int .i64 y11, .int .i64 y12]).heap[p6]? = some (.cells #[.int .i64 y1, .int .i64 y2, .int .i64 y3, .int .i64 u5, .int .i64 y5, .int .i64 y6, .int .i64 y7, .int .i64 y8, .int .i64 y9, .int .i64 y10, .int .i64 y11, .int .i64 y12] 28 (0, 0)) := setRow_heap _ _ _ _ _ _ KZ.out
      refine bodyPost_ret (row_one rfl _ _ p6 _ _ _ _ rfl ZF rfl (by rfl) rfl) rfl ?_
      exact ⟨⟨_, _, _, _, _, _, _, _, _, _, _, _, rfl⟩, Src.Left.past HD.out LY.out (Mid.below_row (Below.refl _ _) _ _ h6)⟩
  by_cases v_2 : v = 2
  · subst v_2
    clear PO AT
    go_upto_region 9 with fail
    refine wp_region_noPanic ?_
    refine wp_region_any (by kernel_rfl) ?_
    refine Inv.wpAny_inv (fun k => k == 7) [40, 41, 42, 43, 44, 45, 46] (fun w' => Src.Left W wq w' g a len cap zs) (fun _ w1 w2 => Src.Left W w1 w2 g a len cap zs) (fun k => ([fun v_ w_ => v_ = .pointer (some ⟨p5, 4, none⟩), fun v_ w_ => v_ = .int .i64 y5, fun v_ w_ => v_ = .pointer (some ⟨g, 0, none⟩), fun v_ w_ => ∃ u : Int, v_ = .int .i64 u ∧ 0 ≤ u ∧ u < 3, fun v_ w_ => ∃ u : Int, v_ = .int .i64 u, fun v_ w_ => ∃ u : Int, v_ = .int .i64 u, fun v_ w_ => v_ = .pointer (some ⟨p5, 4, none⟩), fun v_ w_ => True] : List (Value → World → Prop)).getD k (fun _ _ => True)) _ (fun σ => by simp only [Inv.putAll, List.foldl_cons, List.foldl_nil, Act.put, List.setIfInBounds_toArray, List.set_cons_zero, List.set_cons_succ]; rfl) (by kernel_rfl) (by kernel_rfl) ?_ ((Src.Left.refl LB.out.di).drew) ?_ ?_ 1 #[true, true, true, true, true, true, true, false] (by kernel_rfl) (by kernel_rfl) ?_
    · intro j k v w1 w2 hjk hv hr
      rcases k with _ | k
      · exact hv
      rcases k with _ | k
      · exact hv
      rcases k with _ | k
      · exact hv
      rcases k with _ | k
      · exact hv
      rcases k with _ | k
      · exact hv
      rcases k with _ | k
      · exact hv
      rcases k with _ | k
      · exact hv
      rcases k with _ | k
      · exact hv
      · exact hv
    · intro k t hl hd
      rcases k with _ | k
      · exact absurd hl (by decide +kernel)
      rcases k with _ | k
      · exact absurd hl (by decide +kernel)
      rcases k with _ | k
      · exact absurd hl (by decide +kernel)
      rcases k with _ | k
      · exact absurd hl (by decide +kernel)
      rcases k with _ | k
      · exact absurd hl (by decide +kernel)
      rcases k with _ | k
      · exact absurd hl (by decide +kernel)
      rcases k with _ | k
      · exact absurd hl (by decide +kernel)
      rcases k with _ | k
      · exact absurd hl (by decide +kernel)
      · simp at hd
    · show Inv.Steps _ _ _ _ _ _ _ _ [0, 1, 2, 3, 4, 5, 6]
      refine Inv.Steps.go (by decide) (by rfl) (fun σ wx hw hd K hK => ?_) ?_
      · simp only [List.getElem_toArray, List.getElem_cons_zero, List.getElem_cons_succ, Act.put, List.setIfInBounds_toArray, List.set_cons_zero, List.set_cons_succ] at hK ⊢
        go_simp
        exact hK.out _ _ hw (Src.Left.refl hw.di) (rfl)
      refine Inv.Steps.go (by decide) (by rfl) (fun σ wx hw hd K hK => ?_) ?_
      · obtain e0 : (σ 40) = .pointer (some ⟨p5, 4, none⟩) := hd 0 (some 40) (by kernel_rfl) (by rfl)
        simp only [List.getElem_toArray, List.getElem_cons_zero, List.getElem_cons_succ, Act.put, List.setIfInBounds_toArray, List.set_cons_zero, List.set_cons_succ, e0] at hK ⊢
        have c5 := cell_of_row wx p5 4 _ _ _ (hw.blk K5q.out ne5)
        replace c5 : wx.cell? ⟨p5, 4, none⟩ = some (.int .i64 y5) := c5
        go_simp
        exact hK.out _ _ hw (Src.Left.refl hw.di) (rfl)
      refine Inv.Steps.go (by decide) (by rfl) (fun σ wx hw hd K hK => ?_) ?_
      · simp only [List.getElem_toArray, List.getElem_cons_zero, List.getElem_cons_succ, Act.put, List.setIfInBounds_toArray, List.set_cons_zero, List.set_cons_succ] at hK ⊢
        go_simp
        exact hK.out _ _ hw (Src.Left.refl hw.di) (rfl)
      refine Inv.Steps.go (by decide) (by rfl) (fun σ wx hw hd K hK => ?_) ?_
      · obtain e2 : (σ 42) = .pointer (some ⟨g, 0, none⟩) := hd 2 (some 42) (by kernel_rfl) (by rfl)
        simp only [List.getElem_toArray, List.getElem_cons_zero, List.getElem_cons_succ, Act.put, List.setIfInBounds_toArray, List.set_cons_zero, List.set_cons_succ, e2] at hK ⊢
        go_simp
        go_at_call 7
        refine (Src.n_any 3 hw.di (by decide) (by decide)).mono ?_
        rintro e_ w_ ⟨⟨u_, rfl, h0_, h1_⟩, hl_⟩
        dsimp only
        exact hK.out _ _ (hw.trans hl_) hl_ (⟨_, rfl, h0_, h1_⟩)
      refine Inv.Steps.go (by decide) (by rfl) (fun σ wx hw hd K hK => ?_) ?_
      · obtain ⟨u3, e3, u30, u31⟩ : ∃ u : Int, (σ 43) = .int .i64 u ∧ 0 ≤ u ∧ u < 3 := hd 3 (some 43) (by kernel_rfl) (by rfl)
        simp only [List.getElem_toArray, List.getElem_cons_zero, List.getElem_cons_succ, Act.put, List.setIfInBounds_toArray, List.set_cons_zero, List.set_cons_succ, e3] at hK ⊢
        go_simp
        exact hK.out _ _ hw (Src.Left.refl hw.di) (⟨_, rfl⟩)
      refine Inv.Steps.go (by decide) (by rfl) (fun σ wx hw hd K hK => ?_) ?_
      · obtain e1 : (σ 41) = .int .i64 y5 := hd 1 (some 41) (by kernel_rfl) (by rfl)
        obtain ⟨u4, e4⟩ : ∃ u : Int, (σ 44) = .int .i64 u := hd 4 (some 44) (by kernel_rfl) (by rfl)
        simp only [List.getElem_toArray, List.getElem_cons_zero, List.getElem_cons_succ, Act.put, List.setIfInBounds_toArray, List.set_cons_zero, List.set_cons_succ, e1, e4] at hK ⊢
        go_simp
        exact hK.out _ _ hw (Src.Left.refl hw.di) (⟨_, rfl⟩)
      refine Inv.Steps.go (by decide) (by rfl) (fun σ wx hw hd K hK => ?_) ?_
      · simp only [List.getElem_toArray, List.getElem_cons_zero, List.getElem_cons_succ, Act.put, List.setIfInBounds_toArray, List.set_cons_zero, List.set_cons_succ] at hK ⊢
        go_simp
        exact hK.out _ _ hw (Src.Left.refl hw.di) (rfl)
      exact Inv.Steps.nil
    · intro σ wx hw hd
      obtain ⟨u5, e5⟩ : ∃ u : Int, (σ 45) = .int .i64 u := hd 5 (some 45) (by rfl) (by rfl)
      obtain e6 : (σ 46) = .pointer (some ⟨p5, 4, none⟩) := hd 6 (some 46) (by rfl) (by rfl)
      simp only [e5, e6]
      have c5 : wx.cell? ⟨p5, 4, none⟩ = some (.int .i64 y5) := cell_of_row wx p5 4 _ _ _ (hw.blk K5q.out ne5)
      have f5 := frozen_of_row wx p5 4 _ _ (hw.blk K5q.out ne5)
      refine Inv.one (i := 7) (by decide) (by kernel_rfl) (by rfl) (fun K hK => ?_)
      simp only [List.getElem_toArray, List.getElem_cons_zero, List.getElem_cons_succ, Act.put, List.setIfInBounds_toArray, List.set_cons_zero, List.set_cons_succ] at hK ⊢
      go_simp
      refine hK.out _ _ ?_
      clear hK K
      have KY : Hid ((wx.setCell ⟨p5, 4, none⟩ (.int .i64 u5)).heap[p5]? = some (.cells #[.int .i64 y1, .int .i64 y2, .int .i64 y3, .int .i64 y4, .int .i64 u5, .int .i64 y6, .int .i64 y7, .int .i64 y8, .int .i64 y9, .int .i64 y10, .int .i64 y11, .int .i64 y12] 28 (0, 0))) := Lib.hid (heap_setCell_same wx p5 4 _ _ (.int .i64 u5) (hw.blk K5q.out ne5))
      have KZ := Lib.hid ((Below.heap_setCell wx ⟨p5, 4, none⟩ (.int .i64 u5) p6 (by omega)).trans (hw.blk K6q.out ne6))
      have LY : Hid (Src.Left W w (wx.setCell ⟨p5, 4, none⟩ (.int .i64 u5)) g a len cap zs) := Lib.hid (Src.Left.past HD.out (LB.out.trans hw) ((Below.refl _ _).setCell (p := ⟨p5, 4, none⟩) h5 (.int .i64 u5)))
      obtain ⟨wy, hwy⟩ : ∃ z, z = wx.setCell ⟨p5, 4, none⟩ (.int .i64 u5) := ⟨_, rfl⟩
      rw [← hwy] at KY KZ LY ⊢
      clear hwy c5 f5 hd hw e5 e6
      refine Inv.done (by kernel_rfl) (NoPanic.normal ?_)
      go_wp2_with (first | ((with_reducible refine Mid.ldr 28 (.tmp 5) p5 28 #[.int .i64 y1, .int .i64 y2, .int .i64 y3, .int .i64 y4, .int .i64 u5, .int .i64 y6, .int .i64 y7, .int .i64 y8, .int .i64 y9, .int .i64 y10, .int .i64 y11, .int .i64 y12] KY.out ?_ ?_ ?_ ?_ ?_ ?_); (· rfl); (· rfl); (· first | rfl | simp [Act.eval]); (· exact ⟨_, rfl, rfl⟩); (· kernel_rfl)) | ((with_reducible refine Mid.str 28 (.tmp 6) (.tmp 63) p6 28 #[.int .i64 0, .int .i64 0, .int .i64 0, .int .i64 0, .int .i64 0, .int .i64 0, .int .i64 0, .int .i64 0, .int .i64 0, .int .i64 0, .int .i64 0, .int .i64 0] #[.int .i64 y1, .int .i64 y2, .int .i64 y3, .int .i64 y4, .int .i64 u5, .int .i64 y6, .int .i64 y7, .int .i64 y8, .int .i64 y9, .int .i64 y10, .int .i64 y11, .int .i64 y12] KZ.out ?_ ?_ ?_ ?_ ?_ ?_ ?_ ?_); (· rfl); (· rfl); (· first | rfl | simp [Act.eval]); (· first | rfl | simp [Act.eval]); (· kernel_rfl); (· rfl); (· simp [Value.oneCell'])))
      try simp only [Act.put]
      have ZF : (wy.setRow p6 #[.int .i64 y1, .int .i64 y2, .int .i64 y3, .int .i64 y4, .int .i64 u5, .int .i64 y6, .int .i64 y7, .int .i64 y8, .int .i64 y9, .int .i64 y10, .int .i64 y11, .int .i64 y12]).heap[p6]? = some (.cells #[.int .i64 y1, .int .i64 y2, .int .i64 y3, .int .i64 y4, .int .i64 u5, .int .i64 y6, .int .i64 y7, .int .i64 y8, .int .i64 y9, .int .i64 y10, .int .i64 y11, .int .i64 y12] 28 (0, 0)) := setRow_heap _ _ _ _ _ _ KZ.out
      refine bodyPost_ret (row_one rfl _ _ p6 _ _ _ _ rfl ZF rfl (by rfl) rfl) rfl ?_
      exact ⟨⟨_, _, _, _, _, _, _, _, _, _, _, _, rfl⟩, Src.Left.past HD.out LY.out (Mid.below_row (Below.refl _ _) _ _ h6)⟩
  by_cases v_3 : v = 3
  · subst v_3
    clear PO AT
    go_upto_region 11 with fail
    refine wp_region_noPanic ?_
    refine wp_region_any (by kernel_rfl) ?_
    refine Inv.wpAny_inv (fun k => k == 7) [49, 50, 51, 52, 53, 54, 55] (fun w' => Src.Left W wq w' g a len cap zs) (fun _ w1 w2 => Src.Left W w1 w2 g a len cap zs) (fun k => ([fun v_ w_ => v_ = .pointer (some ⟨p5, 5, none⟩), fun v_ w_ => v_ = .int .i64 y6, fun v_ w_ => v_ = .pointer (some ⟨g, 0, none⟩), fun v_ w_ => ∃ u : Int, v_ = .int .i64 u ∧ 0 ≤ u ∧ u < 9, fun v_ w_ => ∃ u : Int, v_ = .int .i64 u, fun v_ w_ => ∃ u : Int, v_ = .int .i64 u, fun v_ w_ => v_ = .pointer (some ⟨p5, 5, none⟩), fun v_ w_ => True] : List (Value → World → Prop)).getD k (fun _ _ => True)) _ (fun σ => by simp only [Inv.putAll, List.foldl_cons, List.foldl_nil, Act.put, List.setIfInBounds_toArray, List.set_cons_zero, List.set_cons_succ]; rfl) (by kernel_rfl) (by kernel_rfl) ?_ ((Src.Left.refl LB.out.di).drew) ?_ ?_ 1 #[true, true, true, true, true, true, true, false] (by kernel_rfl) (by kernel_rfl) ?_
    · intro j k v w1 w2 hjk hv hr
      rcases k with _ | k
      · exact hv
      rcases k with _ | k
      · exact hv
      rcases k with _ | k
      · exact hv
      rcases k with _ | k
      · exact hv
      rcases k with _ | k
      · exact hv
      rcases k with _ | k
      · exact hv
      rcases k with _ | k
      · exact hv
      rcases k with _ | k
      · exact hv
      · exact hv
    · intro k t hl hd
      rcases k with _ | k
      · exact absurd hl (by decide +kernel)
      rcases k with _ | k
      · exact absurd hl (by decide +kernel)
      rcases k with _ | k
      · exact absurd hl (by decide +kernel)
      rcases k with _ | k
      · exact absurd hl (by decide +kernel)
      rcases k with _ | k
      · exact absurd hl (by decide +kernel)
      rcases k with _ | k
      · exact absurd hl (by decide +kernel)
      rcases k with _ | k
      · exact absurd hl (by decide +kernel)
      rcases k with _ | k
      · exact absurd hl (by decide +kernel)
      · simp at hd
    · show Inv.Steps _ _ _ _ _ _ _ _ [0, 1, 2, 3, 4, 5, 6]
      refine Inv.Steps.go (by decide) (by rfl) (fun σ wx hw hd K hK => ?_) ?_
      · simp only [List.getElem_toArray, List.getElem_cons_zero, List.getElem_cons_succ, Act.put, List.setIfInBounds_toArray, List.set_cons_zero, List.set_cons_succ] at hK ⊢
        go_simp
        exact hK.out _ _ hw (Src.Left.refl hw.di) (rfl)
      refine Inv.Steps.go (by decide) (by rfl) (fun σ wx hw hd K hK => ?_) ?_
      · obtain e0 : (σ 49) = .pointer (some ⟨p5, 5, none⟩) := hd 0 (some 49) (by kernel_rfl) (by rfl)
        simp only [List.getElem_toArray, List.getElem_cons_zero, List.getElem_cons_succ, Act.put, List.setIfInBounds_toArray, List.set_cons_zero, List.set_cons_succ, e0] at hK ⊢
        have c5 := cell_of_row wx p5 5 _ _ _ (hw.blk K5q.out ne5)
        replace c5 : wx.cell? ⟨p5, 5, none⟩ = some (.int .i64 y6) := c5
        go_simp
        exact hK.out _ _ hw (Src.Left.refl hw.di) (rfl)
      refine Inv.Steps.go (by decide) (by rfl) (fun σ wx hw hd K hK => ?_) ?_
      · simp only [List.getElem_toArray, List.getElem_cons_zero, List.getElem_cons_succ, Act.put, List.setIfInBounds_toArray, List.set_cons_zero, List.set_cons_succ] at hK ⊢
        go_simp
        exact hK.out _ _ hw (Src.Left.refl hw.di) (rfl)
      refine Inv.Steps.go (by decide) (by rfl) (fun σ wx hw hd K hK => ?_) ?_
      · obtain e2 : (σ 51) = .pointer (some ⟨g, 0, none⟩) := hd 2 (some 51) (by kernel_rfl) (by rfl)
        simp only [List.getElem_toArray, List.getElem_cons_zero, List.getElem_cons_succ, Act.put, List.setIfInBounds_toArray, List.set_cons_zero, List.set_cons_succ, e2] at hK ⊢
        go_simp
        go_at_call 7
        refine (Src.n_any 9 hw.di (by decide) (by decide)).mono ?_
        rintro e_ w_ ⟨⟨u_, rfl, h0_, h1_⟩, hl_⟩
        dsimp only
        exact hK.out _ _ (hw.trans hl_) hl_ (⟨_, rfl, h0_, h1_⟩)
      refine Inv.Steps.go (by decide) (by rfl) (fun σ wx hw hd K hK => ?_) ?_
      · obtain ⟨u3, e3, u30, u31⟩ : ∃ u : Int, (σ 52) = .int .i64 u ∧ 0 ≤ u ∧ u < 9 := hd 3 (some 52) (by kernel_rfl) (by rfl)
        simp only [List.getElem_toArray, List.getElem_cons_zero, List.getElem_cons_succ, Act.put, List.setIfInBounds_toArray, List.set_cons_zero, List.set_cons_succ, e3] at hK ⊢
        go_simp
        exact hK.out _ _ hw (Src.Left.refl hw.di) (⟨_, rfl⟩)
      refine Inv.Steps.go (by decide) (by rfl) (fun σ wx hw hd K hK => ?_) ?_
      · obtain e1 : (σ 50) = .int .i64 y6 := hd 1 (some 50) (by kernel_rfl) (by rfl)
        obtain ⟨u4, e4⟩ : ∃ u : Int, (σ 53) = .int .i64 u := hd 4 (some 53) (by kernel_rfl) (by rfl)
        simp only [List.getElem_toArray, List.getElem_cons_zero, List.getElem_cons_succ, Act.put, List.setIfInBounds_toArray, List.set_cons_zero, List.set_cons_succ, e1, e4] at hK ⊢
        go_simp
        exact hK.out _ _ hw (Src.Left.refl hw.di) (⟨_, rfl⟩)
      refine Inv.Steps.go (by decide) (by rfl) (fun σ wx hw hd K hK => ?_) ?_
      · simp only [List.getElem_toArray, List.getElem_cons_zero, List.getElem_cons_succ, Act.put, List.setIfInBounds_toArray, List.set_cons_zero, List.set_cons_succ] at hK ⊢
        go_simp
        exact hK.out _ _ hw (Src.Left.refl hw.di) (rfl)
      exact Inv.Steps.nil
    · intro σ wx hw hd
      obtain ⟨u5, e5⟩ : ∃ u : Int, (σ 54) = .int .i64 u := hd 5 (some 54) (by rfl) (by rfl)
      obtain e6 : (σ 55) = .pointer (some ⟨p5, 5, none⟩) := hd 6 (some 55) (by rfl) (by rfl)
      simp only [e5, e6]
      have c5 : wx.cell? ⟨p5, 5, none⟩ = some (.int .i64 y6) := cell_of_row wx p5 5 _ _ _ (hw.blk K5q.out ne5)
      have f5 := frozen_of_row wx p5 5 _ _ (hw.blk K5q.out ne5)
      refine Inv.one (i := 7) (by decide) (by kernel_rfl) (by rfl) (fun K hK => ?_)
      simp only [List.getElem_toArray, List.getElem_cons_zero, List.getElem_cons_succ, Act.put, List.setIfInBounds_toArray, List.set_cons_zero, List.set_cons_succ] at hK ⊢
      go_simp
      refine hK.out _ _ ?_
      clear hK K
      have KY : Hid ((wx.setCell ⟨p5, 5, none⟩ (.int .i64 u5)).heap[p5]? = some (.cells #[.int .i64 y1, .int .i64 y2, .int .i64 y3, .int .i64 y4, .int .i64 y5, .int .i64 u5, .int .i64 y7, .int .i64 y8, .int .i64 y9, .int .i64 y10, .int .i64 y11, .int .i64 y12] 28 (0, 0))) := Lib.hid (heap_setCell_same wx p5 5 _ _ (.int .i64 u5) (hw.blk K5q.out ne5))
      have KZ := Lib.hid ((Below.heap_setCell wx ⟨p5, 5, none⟩ (.int .i64 u5) p6 (by omega)).trans (hw.blk K6q.out ne6))
      have LY : Hid (Src.Left W w (wx.setCell ⟨p5, 5, none⟩ (.int .i64 u5)) g a len cap zs) := Lib.hid (Src.Left.past HD.out (LB.out.trans hw) ((Below.refl _ _).setCell (p := ⟨p5, 5, none⟩) h5 (.int .i64 u5)))
      obtain ⟨wy, hwy⟩ : ∃ z, z = wx.setCell ⟨p5, 5, none⟩ (.int .i64 u5) := ⟨_, rfl⟩
      rw [← hwy] at KY KZ LY ⊢
      clear hwy c5 f5 hd hw e5 e6
      refine Inv.done (by kernel_rfl) (NoPanic.normal ?_)
      go_wp2_with (first | ((with_reducible refine Mid.ldr 28 (.tmp 5) p5 28 #[.int .i64 y1, .int .i64 y2, .int .i64 y3, .int .i64 y4, .int .i64 y5, .int .i64 u5, .int .i64 y7, .int .i64 y8, .int .i64 y9, .int .i64 y10, .int .i64 y11, .int .i64 y12] KY.out ?_ ?_ ?_ ?_ ?_ ?_); (· rfl); (· rfl); (· first | rfl | simp [Act.eval]); (· exact ⟨_, rfl, rfl⟩); (· kernel_rfl)) | ((with_reducible refine Mid.str 28 (.tmp 6) (.tmp 63) p6 28 #[.int .i64 0, .int .i64 0, .int .i64 0, .int .i64 0, .int .i64 0, .int .i64 0, .int .i64 0, .int .i64 0, .int .i64 0, .int .i64 0, .int .i64 0, .int .i64 0] #[.int .i64 y1, .int .i64 y2, .int .i64 y3, .int .i64 y4, .int .i64 y5, .int .i64 u5, .int .i64 y7, .int .i64 y8, .int .i64 y9, .int .i64 y10, .int .i64 y11, .int .i64 y12] KZ.out ?_ ?_ ?_ ?_ ?_ ?_ ?_ ?_); (· rfl); (· rfl); (· first | rfl | simp [Act.eval]); (· first | rfl | simp [Act.eval]); (· kernel_rfl); (· rfl); (· simp [Value.oneCell'])))
      try simp only [Act.put]
      have ZF : (wy.setRow p6 #[.int .i64 y1, .int .i64 y2, .int .i64 y3, .int .i64 y4, .int .i64 y5, .int .i64 u5, .int .i64 y7, .int .i64 y8, .int .i64 y9, .int .i64 y10, .int .i64 y11, .int .i64 y12]).heap[p6]? = some (.cells #[.int .i64 y1, .int .i64 y2, .int .i64 y3, .int .i64 y4, .int .i64 y5, .int .i64 u5, .int .i64 y7, .int .i64 y8, .int .i64 y9, .int .i64 y10, .int .i64 y11, .int .i64 y12] 28 (0, 0)) := setRow_heap _ _ _ _ _ _ KZ.out
      refine bodyPost_ret (row_one rfl _ _ p6 _ _ _ _ rfl ZF rfl (by rfl) rfl) rfl ?_
      exact ⟨⟨_, _, _, _, _, _, _, _, _, _, _, _, rfl⟩, Src.Left.past HD.out LY.out (Mid.below_row (Below.refl _ _) _ _ h6)⟩
  by_cases v_4 : v = 4
  · subst v_4
    clear PO AT
    go_upto_region 14 with (first | ((with_reducible refine Mid.ldm 26 (.tmp 59) p5 6 [.int .i64 y7, .int .i64 y8, .int .i64 y9, .int .i64 y10, .int .i64 y11, .int .i64 y12] RA.out ?_ ?_ ?_ ?_ ?_ ?_); (· rfl); (· rfl); (· first | rfl | simp [Act.eval]); (· exact ⟨_, rfl, rfl⟩); (· kernel_rfl)) | (go_at_call 27; refine (Src.bent_any _ _ _ _ _ _ LB.out.di).mono ?_; rintro e w3 ⟨⟨x1, x2, x3, x4, x5, x6, rfl⟩, l3⟩; have L3 := Lib.hid (LB.out.trans l3); have K53 := Lib.hid (l3.blk K5q.out ne5); have K63 := Lib.hid (l3.blk K6q.out ne6); have T3 := Lib.hid (Mid.there K53.out 6 6 (show 6 + 6 ≤ 12 by decide)); clear l3) | ((with_reducible refine Mid.stm 26 (.tmp 62) (.tmp 61) p5 6 6 [.int .i64 x1, .int .i64 x2, .int .i64 x3, .int .i64 x4, .int .i64 x5, .int .i64 x6] T3.out ?_ ?_ ?_ ?_ ?_ ?_ ?_ ?_); (· rfl); (· rfl); (· first | rfl | simp [Act.eval]); (· first | rfl | simp [Act.eval]); (· rfl); (· kernel_rfl); (· simp [Value.oneCell'])))
    try simp only [Act.put]
    have KY : Hid ((w3.setCells p5 6 [.int .i64 x1, .int .i64 x2, .int .i64 x3, .int .i64 x4, .int .i64 x5, .int .i64 x6]).heap[p5]? = some (.cells #[.int .i64 y1, .int .i64 y2, .int .i64 y3, .int .i64 y4, .int .i64 y5, .int .i64 y6, .int .i64 x1, .int .i64 x2, .int .i64 x3, .int .i64 x4, .int .i64 x5, .int .i64 x6] 28 (0, 0))) := Lib.hid (Mid.heap_set p5 28 [.int .i64 x1, .int .i64 x2, .int .i64 x3, .int .i64 x4, .int .i64 x5, .int .i64 x6] 6 w3 _ K53.out)
    have KZ := Lib.hid ((Mid.other p5 p6 (by omega) [.int .i64 x1, .int .i64 x2, .int .i64 x3, .int .i64 x4, .int .i64 x5, .int .i64 x6] 6 w3).trans K63.out)
    have LY : Hid (Src.Left W w (w3.setCells p5 6 [.int .i64 x1, .int .i64 x2, .int .i64 x3, .int .i64 x4, .int .i64 x5, .int .i64 x6]) g a len cap zs) := Lib.hid (Src.Left.past HD.out L3.out (Mid.below _ _ _ h5 [.int .i64 x1, .int .i64 x2, .int .i64 x3, .int .i64 x4, .int .i64 x5, .int .i64 x6] 6 _ (Below.refl _ _)))
    obtain ⟨w4, hw4⟩ : ∃ z, z = w3.setCells p5 6 [.int .i64 x1, .int .i64 x2, .int .i64 x3, .int .i64 x4, .int .i64 x5, .int .i64 x6] := ⟨_, rfl⟩
    rw [← hw4] at KY KZ LY ⊢
    clear hw4
    go_wp2_with (first | ((with_reducible refine Mid.ldr 28 (.tmp 5) p5 28 #[.int .i64 y1, .int .i64 y2, .int .i64 y3, .int .i64 y4, .int .i64 y5, .int .i64 y6, .int .i64 x1, .int .i64 x2, .int .i64 x3, .int .i64 x4, .int .i64 x5, .int .i64 x6] KY.out ?_ ?_ ?_ ?_ ?_ ?_); (· rfl); (· rfl); (· first | rfl | simp [Act.eval]); (· exact ⟨_, rfl, rfl⟩); (· kernel_rfl)) | ((with_reducible refine Mid.str 28 (.tmp 6) (.tmp 63) p6 28 #[.int .i64 0, .int .i64 0, .int .i64 0, .int .i64 0, .int .i64 0, .int .i64 0, .int .i64 0, .int .i64 0, .int .i64 0, .int .i64 0, .int .i64 0, .int .i64 0] #[.int .i64 y1, .int .i64 y2, .int .i64 y3, .int .i64 y4, .int .i64 y5, .int .i64 y6, .int .i64 x1, .int .i64 x2, .int .i64 x3, .int .i64 x4, .int .i64 x5, .int .i64 x6] KZ.out ?_ ?_ ?_ ?_ ?_ ?_ ?_ ?_); (· rfl); (· rfl); (· first | rfl | simp [Act.eval]); (· first | rfl | simp [Act.eval]); (· kernel_rfl); (· rfl); (· simp [Value.oneCell'])))
    try simp only [Act.put]
    have ZF : (w4.setRow p6 #[.int .i64 y1, .int .i64 y2, .int .i64 y3, .int .i64 y4, .int .i64 y5, .int .i64 y6, .int .i64 x1, .int .i64 x2, .int .i64 x3, .int .i64 x4, .int .i64 x5, .int .i64 x6]).heap[p6]? = some (.cells #[.int .i64 y1, .int .i64 y2, .int .i64 y3, .int .i64 y4, .int .i64 y5, .int .i64 y6, .int .i64 x1, .int .i64 x2, .int .i64 x3, .int .i64 x4, .int .i64 x5, .int .i64 x6] 28 (0, 0)) := setRow_heap _ _ _ _ _ _ KZ.out
    refine bodyPost_ret (row_one rfl _ _ p6 _ _ _ _ rfl ZF rfl (by rfl) rfl) rfl ?_
    exact ⟨⟨_, _, _, _, _, _, _, _, _, _, _, _, rfl⟩, Src.Left.past HD.out LY.out (Mid.below_row (Below.refl _ _) _ _ h6)⟩
  · obtain rfl : v = 5 := by omega
    clear PO AT
    have T3 := Lib.hid (Mid.there K5q.out 6 6 (show 6 + 6 ≤ 12 by decide))
    go_upto_region 14 with (first | ((with_reducible refine Mid.ldm 26 (.tmp 9) p4 0 [.int .i64 R.a, .int .i64 R.b, .int .i64 R.c, .int .i64 R.d, .int .i64 R.e, .int .i64 R.f] RXq.out ?_ ?_ ?_ ?_ ?_ ?_); (· rfl); (· rfl); (· first | rfl | simp [Act.eval]); (· exact ⟨_, rfl, rfl⟩); (· kernel_rfl)) | ((with_reducible refine Mid.stm 26 (.tmp 11) (.tmp 10) p5 6 6 [.int .i64 R.a, .int .i64 R.b, .int .i64 R.c, .int .i64 R.d, .int .i64 R.e, .int .i64 R.f] T3.out ?_ ?_ ?_ ?_ ?_ ?_ ?_ ?_); (· rfl); (· rfl); (· first | rfl | simp [Act.eval]); (· first | rfl | simp [Act.eval]); (· rfl); (· kernel_rfl); (· simp [Value.oneCell'])))
    try simp only [Act.put]
    have KY : Hid ((wq.setCells p5 6 [.int .i64 R.a, .int .i64 R.b, .int .i64 R.c, .int .i64 R.d, .int .i64 R.e, .int .i64 R.f]).heap[p5]? = some (.cells #[.int .i64 y1, .int .i64 y2, .int .i64 y3, .int .i64 y4, .int .i64 y5, .int .i64 y6, .int .i64 R.a, .int .i64 R.b, .int .i64 R.c, .int .i64 R.d, .int .i64 R.e, .int .i64 R.f] 28 (0, 0))) := Lib.hid (Mid.heap_set p5 28 [.int .i64 R.a, .int .i64 R.b, .int .i64 R.c, .int .i64 R.d, .int .i64 R.e, .int .i64 R.f] 6 wq _ K5q.out)
    have KZ := Lib.hid ((Mid.other p5 p6 (by omega) [.int .i64 R.a, .int .i64 R.b, .int .i64 R.c, .int .i64 R.d, .int .i64 R.e, .int .i64 R.f] 6 wq).trans K6q.out)
    have LY : Hid (Src.Left W w (wq.setCells p5 6 [.int .i64 R.a, .int .i64 R.b, .int .i64 R.c, .int .i64 R.d, .int .i64 R.e, .int .i64 R.f]) g a len cap zs) := Lib.hid (Src.Left.past HD.out LB.out (Mid.below _ _ _ h5 [.int .i64 R.a, .int .i64 R.b, .int .i64 R.c, .int .i64 R.d, .int .i64 R.e, .int .i64 R.f] 6 _ (Below.refl _ _)))
    obtain ⟨w4, hw4⟩ : ∃ z, z = wq.setCells p5 6 [.int .i64 R.a, .int .i64 R.b, .int .i64 R.c, .int .i64 R.d, .int .i64 R.e, .int .i64 R.f] := ⟨_, rfl⟩
    rw [← hw4] at KY KZ LY ⊢
    clear hw4
    go_wp2_with (first | ((with_reducible refine Mid.ldr 28 (.tmp 5) p5 28 #[.int .i64 y1, .int .i64 y2, .int .i64 y3, .int .i64 y4, .int .i64 y5, .int .i64 y6, .int .i64 R.a, .int .i64 R.b, .int .i64 R.c, .int .i64 R.d, .int .i64 R.e, .int .i64 R.f] KY.out ?_ ?_ ?_ ?_ ?_ ?_); (· rfl); (· rfl); (· first | rfl | simp [Act.eval]); (· exact ⟨_, rfl, rfl⟩); (· kernel_rfl)) | ((with_reducible refine Mid.str 28 (.tmp 6) (.tmp 63) p6 28 #[.int .i64 0, .int .i64 0, .int .i64 0, .int .i64 0, .int .i64 0, .int .i64 0, .int .i64 0, .int .i64 0, .int .i64 0, .int .i64 0, .int .i64 0, .int .i64 0] #[.int .i64 y1, .int .i64 y2, .int .i64 y3, .int .i64 y4, .int .i64 y5, .int .i64 y6, .int .i64 R.a, .int .i64 R.b, .int .i64 R.c, .int .i64 R.d, .int .i64 R.e, .int .i64 R.f] KZ.out ?_ ?_ ?_ ?_ ?_ ?_ ?_ ?_); (· rfl); (· rfl); (· first | rfl | simp [Act.eval]); (· first | rfl | simp [Act.eval]); (· kernel_rfl); (· rfl); (· simp [Value.oneCell'])))
    try simp only [Act.put]
    have ZF : (w4.setRow p6 #[.int .i64 y1, .int .i64 y2, .int .i64 y3, .int .i64 y4, .int .i64 y5, .int .i64 y6, .int .i64 R.a, .int .i64 R.b, .int .i64 R.c, .int .i64 R.d, .int .i64 R.e, .int .i64 R.f]).heap[p6]? = some (.cells #[.int .i64 y1, .int .i64 y2, .int .i64 y3, .int .i64 y4, .int .i64 y5, .int .i64 y6, .int .i64 R.a, .int .i64 R.b, .int .i64 R.c, .int .i64 R.d, .int .i64 R.e, .int .i64 R.f] 28 (0, 0)) := setRow_heap _ _ _ _ _ _ KZ.out
    refine bodyPost_ret (row_one rfl _ _ p6 _ _ _ _ rfl ZF rfl (by rfl) rfl) rfl ?_
    exact ⟨⟨_, _, _, _, _, _, _, _, _, _, _, _, rfl⟩, Src.Left.past HD.out LY.out (Mid.below_row (Below.refl _ _) _ _ h6)⟩
end Prf
end Loc
end Go.Proofs.Ytldgihlhioeipaa
