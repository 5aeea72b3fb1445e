/- The walk of LocateLarge. -/
import Derived.Test.YtldgihlhioeipaaGreatLlSX
import Derived.Test.YtldgihlhioeipaaGreatLlGQ
import Derived.Test.YtldgihlhioeipaaGreatPlacBC
import Derived.Test.YtldgihlhioeipaaGreatMisP
import Derived.Laws.StructEq
import Derived.Deep.DeepCutAuto
set_option linter.unusedVariables false
set_option linter.unusedSimpArgs false
namespace Go.Proofs.YtldgihlhioeipaaGreat
open Go.RowKit
namespace Laws
open _root_.Go.Proofs.YtldgihlhioeipaaGreat.Loc
structure Ckp (p : Prop) : Prop where
  out : p
theorem locneq (y1 y2 y3 y4 y5 y6 y7 y8 y9 y10 y11 y12 : Int) (w : World) : (binOp .neq 36 (.agg #[.int .i64 y1, .int .i64 y2, .int .i64 y3, .int .i64 y4, .int .i64 y5, .int .i64 y6, .int .i64 y7, .int .i64 y8, .int .i64 y9, .int .i64 y10, .int .i64 y11, .int .i64 y12]) (.agg #[.int .i64 y1, .int .i64 y2, .int .i64 y3, .int .i64 y4, .int .i64 y5, .int .i64 y6, .int .i64 y7, .int .i64 y8, .int .i64 y9, .int .i64 y10, .int .i64 y11, .int .i64 y12])).run Tryz.prog w = .ok (.bool false) w := by
  go_simp
set_option maxHeartbeats 16000000 in
set_option maxRecDepth 100000 in
noncomputable def ck_root : (P_lw1 : Prop) ×' (Ckp P_lw1 → ∀ (a0 : Option Addr) (len0 cap0 : Nat) (z0 : List Int) (w : World) (w0 : Buf.IsRow .i64 w a0 len0 cap0 z0), Calls Tryz.prog 4 #[.slice a0 len0 cap0] w fun e w' => e = .returned (.bool true) ∧ Below w.heap.size w w') := by
  apply PSigma.mk
  case snd =>
    intro hck_lw1
    intro a0 len0 cap0 z0 w w0
    go_enter Tryz.func4, Tryz.ntmps4
    go_wp2_with fail
    refine (Src.new_any a0 len0 cap0 z0 w w0).mono ?_
    rintro e0 wA ⟨rfl, m, hd⟩
    have L0 := Lib.hid (Src.Left.refl hd)
    have sA : w.heap.size < wA.heap.size := hd.lt
    clear hd w0
    go_wp2_with fail
    refine (Mis.problem_any 30 6 (by decide) (by decide) (by decide) (by decide) L0.out.di).mono ?_
    rintro e0 w2 ⟨⟨a1, a2, a3, d1, d2, d3, s, b1, b2, n, c1, c2, lo, hi, gp, cpp, L, cp, nl, rfl, hnl, P⟩, hl⟩
    have s2 : wA.heap.size ≤ w2.heap.size := hl.far.size
    replace L0 := Lib.hid (L0.out.trans hl)
    have PG := Lib.hid P
    replace hnl := Lib.hid hnl
    clear hl P
    go_upto_region 3 with ((with_reducible refine Mid.str 33 (.tmp 4) (.tmp 18) w2.heap.size 33 #[.int .i64 0, .int .i64 0, .int .i64 0, .int .i64 0, .int .i64 0, .int .i64 0, .int .i64 0, .slice none 0 0, .slice none 0 0, .slice none 0 0, .int .i64 0] #[.int .i64 a1, .int .i64 a2, .int .i64 a3, .int .i64 d1, .int .i64 d2, .int .i64 d3, .int .i64 s, .slice (some ⟨b1, 0, none⟩) n c1, .slice (some ⟨b2, 0, none⟩) n c2, .slice (some ⟨gp, 0, none⟩) nl cpp, .int .i64 cp] (heap_alloc_new w2 _) ?_ ?_ ?_ ?_ ?_ ?_ ?_ ?_); (· rfl); (· rfl); (· first | rfl | simp [Act.eval]); (· first | rfl | simp [Act.eval]); (· kernel_rfl); (· rfl); (· simp [Value.oneCell']))
    try simp only [Act.put]
    have N3 : Below w2.heap.size w2 ((w2.alloc (.cells #[.int .i64 0, .int .i64 0, .int .i64 0, .int .i64 0, .int .i64 0, .int .i64 0, .int .i64 0, .slice none 0 0, .slice none 0 0, .slice none 0 0, .int .i64 0] 33)).setRow w2.heap.size #[.int .i64 a1, .int .i64 a2, .int .i64 a3, .int .i64 d1, .int .i64 d2, .int .i64 d3, .int .i64 s, .slice (some ⟨b1, 0, none⟩) n c1, .slice (some ⟨b2, 0, none⟩) n c2, .slice (some ⟨gp, 0, none⟩) nl cpp, .int .i64 cp]) := Mid.below_row (Mis.new_block _) _ _ (Nat.le_refl _)
    have K3 := Lib.hid (show ((w2.alloc (.cells #[.int .i64 0, .int .i64 0, .int .i64 0, .int .i64 0, .int .i64 0, .int .i64 0, .int .i64 0, .slice none 0 0, .slice none 0 0, .slice none 0 0, .int .i64 0] 33)).setRow w2.heap.size #[.int .i64 a1, .int .i64 a2, .int .i64 a3, .int .i64 d1, .int .i64 d2, .int .i64 d3, .int .i64 s, .slice (some ⟨b1, 0, none⟩) n c1, .slice (some ⟨b2, 0, none⟩) n c2, .slice (some ⟨gp, 0, none⟩) nl cpp, .int .i64 cp]).heap[w2.heap.size]? = some (.cells #[.int .i64 a1, .int .i64 a2, .int .i64 a3, .int .i64 d1, .int .i64 d2, .int .i64 d3, .int .i64 s, .slice (some ⟨b1, 0, none⟩) n c1, .slice (some ⟨b2, 0, none⟩) n c2, .slice (some ⟨gp, 0, none⟩) nl cpp, .int .i64 cp] 33 (0, 0)) from setRow_heap _ _ _ _ _ _ (heap_alloc_new w2 _))
    obtain ⟨w3, hw3⟩ : ∃ z, z = (w2.alloc (.cells #[.int .i64 0, .int .i64 0, .int .i64 0, .int .i64 0, .int .i64 0, .int .i64 0, .int .i64 0, .slice none 0 0, .slice none 0 0, .slice none 0 0, .int .i64 0] 33)).setRow w2.heap.size #[.int .i64 a1, .int .i64 a2, .int .i64 a3, .int .i64 d1, .int .i64 d2, .int .i64 d3, .int .i64 s, .slice (some ⟨b1, 0, none⟩) n c1, .slice (some ⟨b2, 0, none⟩) n c2, .slice (some ⟨gp, 0, none⟩) nl cpp, .int .i64 cp] := ⟨_, rfl⟩
    rw [← hw3] at N3 K3 ⊢
    obtain ⟨p4, hp4⟩ : ∃ z, z = w2.heap.size := ⟨_, rfl⟩
    have p4g : w.heap.size ≠ p4 := by omega
    rw [← hp4] at K3 ⊢
    have W3 := Lib.hid (PG.out.tv.below N3)
    have R3 := Lib.hid (PG.out.pr.below N3)
    have L3 := Lib.hid (L0.out.below N3)
    clear hw3 hp4 N3 L0 s2
    go_wp2_with fail
    have L4 := Lib.hid (L3.out.below (Mis.new_block (.cells #[.int .i64 0, .int .i64 10, .int .i64 20, .int .i64 50, .int .i64 100] 3)))
    have K4 := Lib.hid (Mis.hb (Mis.new_block (w := w3) (.cells #[.int .i64 0, .int .i64 10, .int .i64 20, .int .i64 50, .int .i64 100] 3)) K3.out)
    have W4 := Lib.hid (W3.out.below (Mis.new_block (.cells #[.int .i64 0, .int .i64 10, .int .i64 20, .int .i64 50, .int .i64 100] 3)))
    have R4 := Lib.hid (R3.out.below (Mis.new_block (.cells #[.int .i64 0, .int .i64 10, .int .i64 20, .int .i64 50, .int .i64 100] 3)))
    refine (Src.pick_any w3.heap.size [0, 10, 20, 50, 100] 5 5 L4.out.di (Src.ints_alloc w3 [0, 10, 20, 50, 100] 3) rfl (by omega) (by omega) (by have := L3.out.di.lt; omega) (by simp)).mono ?_
    rintro e w5 ⟨⟨tol, rfl, htol⟩, hl⟩
    have t0 : 0 ≤ tol ∧ tol ≤ 100 := by simp at htol; omega
    have K5 := Lib.hid (hl.blk K4.out (Ne.symm p4g))
    have gb1 : b1 ≠ w.heap.size := by have := PG.out.m1; omega
    have gb2 : b2 ≠ w.heap.size := by have := PG.out.m2; omega
    have gbp : gp ≠ w.heap.size := by have := PG.out.gB; omega
    have W5 : Hid (Bound.Wide w5 s b1 b2 n lo hi) := Lib.hid ⟨Mis.tv_kept W4.out.tv (hl.far.block b1 W4.out.tv.e1 (by simpa using gb1)) (hl.far.block b2 W4.out.tv.e2 (by simpa using gb2)) hl.far.size, W4.out.re⟩
    have R5 : Hid (Mis.PhR w5 gp L) := Lib.hid (R4.out.kept (hl.far.block gp R4.out.1 (by simpa using gbp)) hl.far.size)
    have B5 := Lib.hid (L4.out.trans hl).di.bel
    have L5 := Lib.hid (L4.out.trans hl)
    clear hl htol K3 K4 W3 W4 R3 R4 L3 L4
    have hR := PG.out.rg (by decide)
    obtain ⟨SP, hSP, hSR⟩ := spl_both (R := ⟨a1, a2, a3, d1, d2, d3⟩) hR.bv
    have n9 : L.length ≤ 64 := by have := PG.out.n9; omega
    have c9 : cp ≤ 2000 := by have := PG.out.c9; omega
    have rv : Sb ⟨a1, a2, a3, d1, d2, d3⟩ ⟨a1, a2, a3, d1, d2, d3⟩ := ⟨Int.le_refl _, Int.le_refl _, Int.le_refl _, Int.le_refl _, Int.le_refl _, Int.le_refl _, hR.bv.x, hR.bv.y, hR.bv.z⟩
    have few := few_of 30 (by decide) rv PG.out.s1 PG.out.s2 PG.out.s3
    have hcp : nl ≤ cpp := by have := PG.out.le; rw [hnl.out]; exact this
    have P := pr_of (R := ⟨a1, a2, a3, d1, d2, d3⟩) hR W5.out PG.out.ph.s PG.out.n1 n9 PG.out.c0 c9 R5.out hnl.out hcp c1 c2 hSP few
    have RR := rr_of (R := ⟨a1, a2, a3, d1, d2, d3⟩) hR W5.out PG.out.ph.s PG.out.n1 n9 PG.out.c0 c9 R5.out hnl.out hcp c1 c2 P hSR
    have HM := mono_of (R := ⟨a1, a2, a3, d1, d2, d3⟩) hR W5.out PG.out.ph.s PG.out.n1 PG.out.c0
    obtain ⟨y1, y2, y3, y4, y5, y6, y7, y8, y9, y10, y11, y12, er, LO, RO, FIN⟩ := both_locate P RR tol t0.1 (by omega) HM
    have G0 := P.g0
    have BVS := P.bv
    -- a point of the region, at any world that holds the problem
    have AT : Hid (∀ w' : World, Bound.Wide w' s b1 b2 n lo hi → Mis.PhR w' gp L → ∀ p, inB ⟨a1, a2, a3, d1, d2, d3⟩ p → Calls Tryz.prog 13 #[.agg #[.int .i64 a1, .int .i64 a2, .int .i64 a3, .int .i64 d1, .int .i64 d2, .int .i64 d3, .int .i64 s, .slice (some ⟨b1, 0, none⟩) n c1, .slice (some ⟨b2, 0, none⟩) n c2, .slice (some ⟨gp, 0, none⟩) nl cpp, .int .i64 cp], .agg #[.int .i64 p.1, .int .i64 p.2.1, .int .i64 p.2.2]] w' fun e w'' => e = .returned (.tuple #[.int .i64 (Gm s lo hi cp L p).1, .int .i64 (Gm s lo hi cp L p).2, .int .i64 0]) ∧ Below w'.heap.size w' w'') := Lib.hid fun w' hW hP p hp => Mis.at_of hR hW PG.out.ph.s PG.out.n1 n9 PG.out.c0 c9 hP hnl.out hcp c1 c2 p.1 p.2.1 p.2.2 (sub_pt hp)
    have BVR := Lib.hid hR.bv
    obtain ⟨G, hG⟩ : ∃ G : P3 → Int × Int, G = Gm s lo hi cp L := ⟨_, rfl⟩
    have eG : (⟨Fm s lo hi cp L, Gm s lo hi cp L, SP⟩ : Loc.Ask).G = G := hG.symm
    rw [eG] at FIN G0
    rw [← hG] at AT
    obtain ⟨tb0, tb9⟩ := t0
    replace LO := Lib.hid LO
    replace RO := Lib.hid RO
    replace FIN := Lib.hid FIN
    replace G0 := Lib.hid G0
    replace BVS := Lib.hid BVS
    clear P RR HM few rv hR hSP hSR n9 c9 hcp hG eG
    have AW := Lib.hid Loc.awake_any
    have NE := locneq y1 y2 y3 y4 y5 y6 y7 y8 y9 y10 y11 y12
    rename_i lw1i0 lw1i1 lw1i2 lw1i3 lw1i4
    revert a0 len0 cap0 z0 w lw1i0 wA m sA w2 a1 a2 a3 d1 d2 d3 s b1 b2 n c1 c2 lo hi gp cpp L cp nl PG hnl lw1i1 lw1i2 w3 p4 p4g lw1i3 lw1i4 w5 tol K5 gb1 gb2 gbp W5 R5 B5 L5 SP y1 y2 y3 y4 y5 y6 y7 y8 y9 y10 y11 y12 er BVR G AT tb0 tb9 LO RO FIN G0 BVS AW NE
    exact hck_lw1.out
set_option maxHeartbeats 16000000 in
set_option maxRecDepth 100000 in
noncomputable def ck_lw1 : (P_lw2 : Prop) ×' (Ckp P_lw2 → ck_root.1) := by
  apply PSigma.mk
  case snd =>
    intro hck_lw2
    intro a0 len0 cap0 z0 w lw1i0 wA m sA w2 a1 a2 a3 d1
      d2 d3 s b1 b2 n c1 c2 lo hi gp cpp L cp
      nl PG hnl lw1i1 lw1i2 w3 p4 p4g lw1i3 lw1i4 w5 tol K5 gb1
      gb2 gbp W5 R5 B5 L5 SP y1 y2 y3 y4 y5 y6 y7
      y8 y9 y10 y11 y12 er BVR G AT tb0 tb9 LO RO FIN
      G0 BVS AW NE
    go_upto_region 5 with (first | ((with_reducible refine Mid.ldr 33 (.tmp 4) p4 33 #[.int .i64 a1, .int .i64 a2, .int .i64 a3, .int .i64 d1, .int .i64 d2, .int .i64 d3, .int .i64 s, .slice (some ⟨b1, 0, none⟩) n c1, .slice (some ⟨b2, 0, none⟩) n c2, .slice (some ⟨gp, 0, none⟩) nl cpp, .int .i64 cp] K5.out ?_ ?_ ?_ ?_ ?_ ?_); (· rfl); (· rfl); (· first | rfl | simp [Act.eval]); (· exact ⟨_, rfl, rfl⟩); (· kernel_rfl)) | (go_at_call 7; refine (LO.out _ (Below.refl _ _)).mono ?_; rintro e w6 ⟨rfl, b6⟩; have B6 := Lib.hid b6; have K6 := Lib.hid (Mis.hb b6 K5.out); clear b6) | ((with_reducible refine Mid.str 36 (.tmp 6) (.tmp 26) w6.heap.size 36 #[.int .i64 0, .int .i64 0, .int .i64 0, .int .i64 0, .int .i64 0, .int .i64 0, .int .i64 0, .int .i64 0, .int .i64 0, .int .i64 0, .int .i64 0, .int .i64 0] #[.int .i64 y1, .int .i64 y2, .int .i64 y3, .int .i64 y4, .int .i64 y5, .int .i64 y6, .int .i64 y7, .int .i64 y8, .int .i64 y9, .int .i64 y10, .int .i64 y11, .int .i64 y12] (heap_alloc_new w6 _) ?_ ?_ ?_ ?_ ?_ ?_ ?_ ?_); (· rfl); (· rfl); (· first | rfl | simp [Act.eval]); (· first | rfl | simp [Act.eval]); (· kernel_rfl); (· rfl); (· simp [Value.oneCell'])))
    try simp only [Act.put]
    have N7 : Below w6.heap.size w6 ((w6.alloc (.cells #[.int .i64 0, .int .i64 0, .int .i64 0, .int .i64 0, .int .i64 0, .int .i64 0, .int .i64 0, .int .i64 0, .int .i64 0, .int .i64 0, .int .i64 0, .int .i64 0] 36)).setRow w6.heap.size #[.int .i64 y1, .int .i64 y2, .int .i64 y3, .int .i64 y4, .int .i64 y5, .int .i64 y6, .int .i64 y7, .int .i64 y8, .int .i64 y9, .int .i64 y10, .int .i64 y11, .int .i64 y12]) := Mid.below_row (Mis.new_block _) _ _ (Nat.le_refl _)
    have X6 := Lib.hid (show ((w6.alloc (.cells #[.int .i64 0, .int .i64 0, .int .i64 0, .int .i64 0, .int .i64 0, .int .i64 0, .int .i64 0, .int .i64 0, .int .i64 0, .int .i64 0, .int .i64 0, .int .i64 0] 36)).setRow w6.heap.size #[.int .i64 y1, .int .i64 y2, .int .i64 y3, .int .i64 y4, .int .i64 y5, .int .i64 y6, .int .i64 y7, .int .i64 y8, .int .i64 y9, .int .i64 y10, .int .i64 y11, .int .i64 y12]).heap[w6.heap.size]? = some (.cells #[.int .i64 y1, .int .i64 y2, .int .i64 y3, .int .i64 y4, .int .i64 y5, .int .i64 y6, .int .i64 y7, .int .i64 y8, .int .i64 y9, .int .i64 y10, .int .i64 y11, .int .i64 y12] 36 (0, 0)) from setRow_heap _ _ _ _ _ _ (heap_alloc_new w6 _))
    obtain ⟨w7, hw7⟩ : ∃ z, z = (w6.alloc (.cells #[.int .i64 0, .int .i64 0, .int .i64 0, .int .i64 0, .int .i64 0, .int .i64 0, .int .i64 0, .int .i64 0, .int .i64 0, .int .i64 0, .int .i64 0, .int .i64 0] 36)).setRow w6.heap.size #[.int .i64 y1, .int .i64 y2, .int .i64 y3, .int .i64 y4, .int .i64 y5, .int .i64 y6, .int .i64 y7, .int .i64 y8, .int .i64 y9, .int .i64 y10, .int .i64 y11, .int .i64 y12] := ⟨_, rfl⟩
    rw [← hw7] at N7 X6 ⊢
    obtain ⟨p6, hp6⟩ : ∃ z, z = w6.heap.size := ⟨_, rfl⟩
    have p6g : p6 ≠ w.heap.size := by have := B6.out.size; have := L5.out.di.lt; omega
    rw [← hp6] at X6 ⊢
    have K7 := Lib.hid (Mis.hb N7 K6.out)
    have B7 := Lib.hid (Buf.then_ B6.out N7)
    clear hw7 hp6 N7 K6 B6 LO
    go_upto_region 6 with (first | ((with_reducible refine Mid.ldr 33 (.tmp 4) p4 33 #[.int .i64 a1, .int .i64 a2, .int .i64 a3, .int .i64 d1, .int .i64 d2, .int .i64 d3, .int .i64 s, .slice (some ⟨b1, 0, none⟩) n c1, .slice (some ⟨b2, 0, none⟩) n c2, .slice (some ⟨gp, 0, none⟩) nl cpp, .int .i64 cp] K7.out ?_ ?_ ?_ ?_ ?_ ?_); (· rfl); (· rfl); (· first | rfl | simp [Act.eval]); (· exact ⟨_, rfl, rfl⟩); (· kernel_rfl)) | (go_at_call 11; refine (RO.out _ B7.out).mono ?_; rintro e w8 ⟨rfl, b8⟩; have B8 := Lib.hid (Buf.then_ B7.out b8); have K8 := Lib.hid (Mis.hb b8 K7.out); have X8 := Lib.hid (Mis.hb b8 X6.out); clear b8) | ((with_reducible refine Mid.str 36 (.tmp 8) (.tmp 32) w8.heap.size 36 #[.int .i64 0, .int .i64 0, .int .i64 0, .int .i64 0, .int .i64 0, .int .i64 0, .int .i64 0, .int .i64 0, .int .i64 0, .int .i64 0, .int .i64 0, .int .i64 0] #[.int .i64 y1, .int .i64 y2, .int .i64 y3, .int .i64 y4, .int .i64 y5, .int .i64 y6, .int .i64 y7, .int .i64 y8, .int .i64 y9, .int .i64 y10, .int .i64 y11, .int .i64 y12] (heap_alloc_new w8 _) ?_ ?_ ?_ ?_ ?_ ?_ ?_ ?_); (· rfl); (· rfl); (· first | rfl | simp [Act.eval]); (· first | rfl | simp [Act.eval]); (· kernel_rfl); (· rfl); (· simp [Value.oneCell'])))
    try simp only [Act.put]
    have N9 : Below w8.heap.size w8 ((w8.alloc (.cells #[.int .i64 0, .int .i64 0, .int .i64 0, .int .i64 0, .int .i64 0, .int .i64 0, .int .i64 0, .int .i64 0, .int .i64 0, .int .i64 0, .int .i64 0, .int .i64 0] 36)).setRow w8.heap.size #[.int .i64 y1, .int .i64 y2, .int .i64 y3, .int .i64 y4, .int .i64 y5, .int .i64 y6, .int .i64 y7, .int .i64 y8, .int .i64 y9, .int .i64 y10, .int .i64 y11, .int .i64 y12]) := Mid.below_row (Mis.new_block _) _ _ (Nat.le_refl _)
    have Y9 := Lib.hid (show ((w8.alloc (.cells #[.int .i64 0, .int .i64 0, .int .i64 0, .int .i64 0, .int .i64 0, .int .i64 0, .int .i64 0, .int .i64 0, .int .i64 0, .int .i64 0, .int .i64 0, .int .i64 0] 36)).setRow w8.heap.size #[.int .i64 y1, .int .i64 y2, .int .i64 y3, .int .i64 y4, .int .i64 y5, .int .i64 y6, .int .i64 y7, .int .i64 y8, .int .i64 y9, .int .i64 y10, .int .i64 y11, .int .i64 y12]).heap[w8.heap.size]? = some (.cells #[.int .i64 y1, .int .i64 y2, .int .i64 y3, .int .i64 y4, .int .i64 y5, .int .i64 y6, .int .i64 y7, .int .i64 y8, .int .i64 y9, .int .i64 y10, .int .i64 y11, .int .i64 y12] 36 (0, 0)) from setRow_heap _ _ _ _ _ _ (heap_alloc_new w8 _))
    obtain ⟨w9, hw9⟩ : ∃ z, z = (w8.alloc (.cells #[.int .i64 0, .int .i64 0, .int .i64 0, .int .i64 0, .int .i64 0, .int .i64 0, .int .i64 0, .int .i64 0, .int .i64 0, .int .i64 0, .int .i64 0, .int .i64 0] 36)).setRow w8.heap.size #[.int .i64 y1, .int .i64 y2, .int .i64 y3, .int .i64 y4, .int .i64 y5, .int .i64 y6, .int .i64 y7, .int .i64 y8, .int .i64 y9, .int .i64 y10, .int .i64 y11, .int .i64 y12] := ⟨_, rfl⟩
    rw [← hw9] at N9 Y9 ⊢
    obtain ⟨p8, hp8⟩ : ∃ z, z = w8.heap.size := ⟨_, rfl⟩
    rw [← hp8] at Y9 ⊢
    have K9 := Lib.hid (Mis.hb N9 K8.out)
    have X9 := Lib.hid (Mis.hb N9 X8.out)
    have B9 := Lib.hid (Buf.then_ B8.out N9)
    clear hw9 hp8 N9 K8 X8 B8 K7 X6 B7 RO
    have L9 := Lib.hid (L5.out.below B9.out)
    have W9 := Lib.hid (W5.out.below B9.out)
    have R9 := Lib.hid (R5.out.below B9.out)
    clear L5 W5 R5 B9 K5 B5
    have ee : (er != er) = false := by simp
    rcases FIN.out with h25 | ⟨h0, m0, m9, sA, inx, gx, lo1, lo2, hall⟩
    · subst h25
      clear FIN AT
      go_wp2_with (first | ((with_reducible refine Mid.ldr 36 (.tmp 6) p6 36 #[.int .i64 y1, .int .i64 y2, .int .i64 y3, .int .i64 y4, .int .i64 y5, .int .i64 y6, .int .i64 y7, .int .i64 y8, .int .i64 y9, .int .i64 y10, .int .i64 y11, .int .i64 y12] X9.out ?_ ?_ ?_ ?_ ?_ ?_); (· rfl); (· rfl); (· first | rfl | simp [Act.eval]); (· exact ⟨_, rfl, rfl⟩); (· kernel_rfl)) | ((with_reducible refine Mid.ldr 36 (.tmp 8) p8 36 #[.int .i64 y1, .int .i64 y2, .int .i64 y3, .int .i64 y4, .int .i64 y5, .int .i64 y6, .int .i64 y7, .int .i64 y8, .int .i64 y9, .int .i64 y10, .int .i64 y11, .int .i64 y12] Y9.out ?_ ?_ ?_ ?_ ?_ ?_); (· rfl); (· rfl); (· first | rfl | simp [Act.eval]); (· exact ⟨_, rfl, rfl⟩); (· kernel_rfl)) | (go_at_call 9; refine (AW.out _).mono ?_; rintro e w10 ⟨rfl, b10⟩))
      go_ret
      exact ⟨rfl, Buf.then_ L9.out.di.bel b10⟩
    · subst h0
      have bA := BVS.out _ sA
      have all2 : Hid (∀ p, inB ⟨a1, a2, a3, d1, d2, d3⟩ p → 0 ≤ (G p).2 ∧ (G p).2 ≤ 1125899906842624 ∧ y6 ≤ (G p).2 ∧ ((G p).2 < y5 → Geo.coV y7 y8 y9 y10 y11 y12 p.1 p.2.1 p.2.2 = true)) := Lib.hid fun p hp => by
        obtain ⟨g0, g9⟩ := G0.out p hp
        obtain ⟨h1, h2⟩ := hall p hp
        refine ⟨g0, g9, h1, fun h3 => ?_⟩
        have h4 := h2 h3
        unfold inB at h4
        unfold Geo.coV
        rw [Geo.bvB_of bA, decide_eq_true (by simpa using h4)]; rfl
      have yl : y5 - tol ≤ y6 := by omega
      have y60 : -100 ≤ y6 := by omega
      clear FIN hall G0 BVS sA inx gx bA lo1
      go_upto_region 13 with (first | ((with_reducible refine Mid.ldr 36 (.tmp 6) p6 36 #[.int .i64 y1, .int .i64 y2, .int .i64 y3, .int .i64 y4, .int .i64 y5, .int .i64 y6, .int .i64 y7, .int .i64 y8, .int .i64 y9, .int .i64 y10, .int .i64 y11, .int .i64 y12] X9.out ?_ ?_ ?_ ?_ ?_ ?_); (· rfl); (· rfl); (· first | rfl | simp [Act.eval]); (· exact ⟨_, rfl, rfl⟩); (· kernel_rfl)) | ((with_reducible refine Mid.ldr 36 (.tmp 8) p8 36 #[.int .i64 y1, .int .i64 y2, .int .i64 y3, .int .i64 y4, .int .i64 y5, .int .i64 y6, .int .i64 y7, .int .i64 y8, .int .i64 y9, .int .i64 y10, .int .i64 y11, .int .i64 y12] Y9.out ?_ ?_ ?_ ?_ ?_ ?_); (· rfl); (· rfl); (· first | rfl | simp [Act.eval]); (· exact ⟨_, rfl, rfl⟩); (· kernel_rfl)))
      rename_i lw2i0 lw2i1
      revert a0 len0 cap0 z0 w lw1i0 wA m sA w2 a1 a2 a3 d1 d2 d3 s b1 b2 n c1 c2 lo hi gp cpp L cp nl PG hnl w3 p4 p4g w5 tol gb1 gb2 gbp SP y1 y2 y3 y4 y5 y6 y7 y8 y9 y10 y11 y12 BVR G AT tb0 tb9 AW NE w6 w7 p6 p6g w8 w9 p8 Y9 K9 X9 L9 W9 R9 m0 m9 lo2 ee all2 yl y60 lw2i0 lw2i1
      exact hck_lw2.out
set_option maxHeartbeats 16000000 in
set_option maxRecDepth 100000 in
noncomputable def ck_lw2 : (P_lw3 : Prop) ×' (Ckp P_lw3 → ck_lw1.1) := by
  apply PSigma.mk
  case snd =>
    intro hck_lw3
    intro a0 len0 cap0 z0 w lw1i0 wA m sA w2 a1 a2 a3 d1
      d2 d3 s b1 b2 n c1 c2 lo hi gp cpp L cp
      nl PG hnl w3 p4 p4g w5 tol gb1 gb2 gbp SP y1 y2
      y3 y4 y5 y6 y7 y8 y9 y10 y11 y12 BVR G AT tb0
      tb9 AW NE w6 w7 p6 p6g w8 w9 p8 Y9 K9 X9 L9
      W9 R9 m0 m9 lo2 ee all2 yl y60 lw2i0 lw2i1
    obtain ⟨w10, hw10⟩ : ∃ z : World, z = w9 := ⟨_, rfl⟩
    go_loopw [10] (fun i wr => ∃ k : Nat, k ≤ 12 ∧ i = .int .i64 k ∧ Hid (Src.Left w w9 wr w.heap.size a0 m cap0 z0)) (fun i _ => 12 - (intOf i).toNat)
    case atStart => exact ⟨0, by omega, rfl, Lib.hid (Src.Left.refl L9.out.di)⟩
    case round =>
      obtain ⟨k, hk, rfl, LL⟩ := hrel
      have KR := Lib.hid (LL.out.blk K9.out (Ne.symm p4g))
      have XR := Lib.hid (LL.out.blk X9.out p6g)
      by_cases hlt : k < 12
      · have hlt' : (k : Int) < 12 := by omega
        have WR : Hid (Bound.Wide wr s b1 b2 n lo hi) := Lib.hid ⟨Mis.tv_kept W9.out.tv (LL.out.far.block b1 W9.out.tv.e1 (by simpa using gb1)) (LL.out.far.block b2 W9.out.tv.e2 (by simpa using gb2)) LL.out.far.size, W9.out.re⟩
        have RR := Lib.hid (R9.out.kept (LL.out.far.block gp R9.out.1 (by simpa using gbp)) LL.out.far.size)
        have RX := Lib.hid (Mid.range KR.out 0 [.int .i64 a1, .int .i64 a2, .int .i64 a3, .int .i64 d1, .int .i64 d2, .int .i64 d3] (by rfl))
        have PO := Lib.hid (Src.point_any a1 a2 a3 d1 d2 d3 BVR.out LL.out.di)
        have c5 : wr.cell? ⟨p6, 5, none⟩ = some (.int .i64 y6) := cell_of_row wr p6 5 _ _ _ XR.out
        clear c5
        revert a0 len0 cap0 z0 w lw1i0 wA m sA w2 a1 a2 a3 d1 d2 d3 s b1 b2 n c1 c2 lo hi gp cpp L cp nl PG hnl w3 p4 p4g w5 tol gb1 gb2 gbp SP y1 y2 y3 y4 y5 y6 y7 y8 y9 y10 y11 y12 BVR G AT tb0 tb9 AW NE w6 w7 p6 p6g w8 w9 p8 Y9 K9 X9 L9 W9 R9 m0 m9 lo2 ee all2 yl y60 lw2i0 lw2i1 w10 hw10 wr u2 u11 u12 u13 u14 u47 u48 u49 u50 u51 u52 u53 u54 u55 u56 u57 u58 u59 u60 u61 u62 u63 u64 u65 u66 u67 u68 u69 u70 u71 u72 u73 u74 u75 u76 u77 u78 u79 u80 u81 u82 u83 u84 u85 u86 u87 u88 u89 u90 k hk LL KR XR hlt hlt' WR RR RX PO
        exact hck_lw3.out
      · obtain rfl : k = 12 := by omega
        go_wp2_with (go_at_call 9; refine (AW.out _).mono ?_; rintro e w11 ⟨rfl, b11⟩)
        go_ret
        exact ⟨rfl, Buf.then_ LL.out.di.bel b11⟩
set_option maxHeartbeats 16000000 in
set_option maxRecDepth 100000 in
theorem ck_lw3 : ck_lw2.1 := by
  intro a0 len0 cap0 z0 w lw1i0 wA m sA w2 a1 a2 a3 d1
    d2 d3 s b1 b2 n c1 c2 lo hi gp cpp L cp
    nl PG hnl w3 p4 p4g w5 tol gb1 gb2 gbp SP y1 y2
    y3 y4 y5 y6 y7 y8 y9 y10 y11 y12 BVR G AT tb0
    tb9 AW NE w6 w7 p6 p6g w8 w9 p8 Y9 K9 X9 L9
    W9 R9 m0 m9 lo2 ee all2 yl y60 lw2i0 lw2i1 w10 hw10 wr
    u2 u11 u12 u13 u14 u47 u48 u49 u50 u51 u52 u53 u54 u55
    u56 u57 u58 u59 u60 u61 u62 u63 u64 u65 u66 u67 u68 u69
    u70 u71 u72 u73 u74 u75 u76 u77 u78 u79 u80 u81 u82 u83
    u84 u85 u86 u87 u88 u89 u90 k hk LL KR XR hlt hlt'
    WR RR RX PO
  go_upto_region 16 with (first | ((with_reducible refine Mid.ldm 28 (.tmp 52) p4 0 [.int .i64 a1, .int .i64 a2, .int .i64 a3, .int .i64 d1, .int .i64 d2, .int .i64 d3] RX.out ?_ ?_ ?_ ?_ ?_ ?_); (· rfl); (· rfl); (· first | rfl | simp [Act.eval]); (· exact ⟨_, rfl, rfl⟩); (· kernel_rfl)) | (go_at_call 12; refine PO.out.mono ?_; rintro e w11 ⟨⟨x1, x2, x3, rfl, q1, q2, q3, q4, q5, q6⟩, l11⟩; have L11 := Lib.hid (LL.out.trans l11); have K11 := Lib.hid (l11.blk KR.out (Ne.symm p4g)); have X11 := Lib.hid (l11.blk XR.out p6g); have W11 : Hid (Bound.Wide w11 s b1 b2 n lo hi) := Lib.hid ⟨Mis.tv_kept WR.out.tv (l11.far.block b1 WR.out.tv.e1 (by simpa using gb1)) (l11.far.block b2 WR.out.tv.e2 (by simpa using gb2)) l11.far.size, WR.out.re⟩; have R11 := Lib.hid (RR.out.kept (l11.far.block gp RR.out.1 (by simpa using gbp)) l11.far.size); clear l11) | ((with_reducible refine Mid.str 26 (.tmp 11) (.tmp 54) w11.heap.size 26 #[.int .i64 0, .int .i64 0, .int .i64 0] #[.int .i64 x1, .int .i64 x2, .int .i64 x3] (heap_alloc_new w11 _) ?_ ?_ ?_ ?_ ?_ ?_ ?_ ?_); (· rfl); (· rfl); (· first | rfl | simp [Act.eval]); (· first | rfl | simp [Act.eval]); (· kernel_rfl); (· rfl); (· simp [Value.oneCell'])))
  try simp only [Act.put]
  have N12 : Below w11.heap.size w11 ((w11.alloc (.cells #[.int .i64 0, .int .i64 0, .int .i64 0] 26)).setRow w11.heap.size #[.int .i64 x1, .int .i64 x2, .int .i64 x3]) := Mid.below_row (Mis.new_block _) _ _ (Nat.le_refl _)
  have Q12 := Lib.hid (show ((w11.alloc (.cells #[.int .i64 0, .int .i64 0, .int .i64 0] 26)).setRow w11.heap.size #[.int .i64 x1, .int .i64 x2, .int .i64 x3]).heap[w11.heap.size]? = some (.cells #[.int .i64 x1, .int .i64 x2, .int .i64 x3] 26 (0, 0)) from setRow_heap _ _ _ _ _ _ (heap_alloc_new w11 _))
  obtain ⟨w12, hw12⟩ : ∃ z, z = (w11.alloc (.cells #[.int .i64 0, .int .i64 0, .int .i64 0] 26)).setRow w11.heap.size #[.int .i64 x1, .int .i64 x2, .int .i64 x3] := ⟨_, rfl⟩
  rw [← hw12] at N12 Q12 ⊢
  obtain ⟨p11, hp11⟩ : ∃ z, z = w11.heap.size := ⟨_, rfl⟩
  rw [← hp11] at Q12 ⊢
  have L12 := Lib.hid (L11.out.below N12)
  have K12 := Lib.hid (Mis.hb N12 K11.out)
  have X12 := Lib.hid (Mis.hb N12 X11.out)
  have hin : inB ⟨a1, a2, a3, d1, d2, d3⟩ (x1, x2, x3) := ⟨q1, q2, q3, q4, q5, q6⟩
  have A12 := Lib.hid (AT.out w12 (W11.out.below N12) (R11.out.below N12) (x1, x2, x3) hin)
  obtain ⟨g0, g9, gl, gc⟩ := all2.out _ hin
  obtain ⟨t1, ht1⟩ : ∃ z, z = (G (x1, x2, x3)).1 := ⟨_, rfl⟩
  obtain ⟨cost, hcost⟩ : ∃ z, z = (G (x1, x2, x3)).2 := ⟨_, rfl⟩
  rw [← ht1, ← hcost] at A12
  rw [← hcost] at g0 g9 gl gc
  replace ht1 := Lib.hid ht1
  replace hcost := Lib.hid hcost
  clear hw12 hp11 N12 L11 K11 X11 W11 R11 KR XR WR RR RX PO LL q1 q2 q3 q4 q5 q6 hin
  go_upto_region 17 with (first | ((with_reducible refine Mid.ldr 33 (.tmp 4) p4 33 #[.int .i64 a1, .int .i64 a2, .int .i64 a3, .int .i64 d1, .int .i64 d2, .int .i64 d3, .int .i64 s, .slice (some ⟨b1, 0, none⟩) n c1, .slice (some ⟨b2, 0, none⟩) n c2, .slice (some ⟨gp, 0, none⟩) nl cpp, .int .i64 cp] K12.out ?_ ?_ ?_ ?_ ?_ ?_); (· rfl); (· rfl); (· first | rfl | simp [Act.eval]); (· exact ⟨_, rfl, rfl⟩); (· kernel_rfl)) | ((with_reducible refine Mid.ldr 26 (.tmp 11) p11 26 #[.int .i64 x1, .int .i64 x2, .int .i64 x3] Q12.out ?_ ?_ ?_ ?_ ?_ ?_); (· rfl); (· rfl); (· first | rfl | simp [Act.eval]); (· exact ⟨_, rfl, rfl⟩); (· kernel_rfl)) | (go_at_call 13; refine A12.out.mono ?_; rintro e w13 ⟨rfl, b13⟩; have L13 := Lib.hid (L12.out.below b13); have X13 := Lib.hid (Mis.hb b13 X12.out); have Q13 := Lib.hid (Mis.hb b13 Q12.out); clear b13))
  clear L12 K12 X12 Q12 A12
  have e4 : w13.cell? ⟨p6, 4, none⟩ = some (.int .i64 y5) := cell_of_row w13 p6 4 _ _ _ X13.out
  have e5 : w13.cell? ⟨p6, 5, none⟩ = some (.int .i64 y6) := cell_of_row w13 p6 5 _ _ _ X13.out
  have RA := Lib.hid (Mid.range X13.out 6 [.int .i64 y7, .int .i64 y8, .int .i64 y9, .int .i64 y10, .int .i64 y11, .int .i64 y12] (by rfl))
  have d1 : decide (cost < y6) = false := decide_eq_false (by omega)
  have d2 : decide (cost < y5 - tol) = false := decide_eq_false (by omega)
  have ew : IntKind.i64.wrap (y5 - tol) = y5 - tol := by go_unwrap
  by_cases hc : cost < y5
  · have d3 : decide (cost < y5) = true := decide_eq_true hc
    have CO := Lib.hid (Geo.contains_all y7 y8 y9 y10 y11 y12 x1 x2 x3)
    rw [gc hc] at CO
    clear gc
    go_wp2_with (first | ((with_reducible refine Loc.ldmg 28 (.tmp 84) p6 6 [.int .i64 y7, .int .i64 y8, .int .i64 y9, .int .i64 y10, .int .i64 y11, .int .i64 y12] RA.out ?_ ?_ ?_ ?_ ?_ ?_); (· rfl); (· first | rfl | simp [Region.wanted, yielded]); (· first | rfl | simp [Act.eval]); (· exact ⟨_, rfl, rfl⟩); (· kernel_rfl)) | ((with_reducible refine Mid.ldrg 26 (.tmp 11) p11 26 #[.int .i64 x1, .int .i64 x2, .int .i64 x3] Q13.out ?_ ?_ ?_ ?_ ?_ ?_); (· rfl); (· first | rfl | simp [Region.wanted, yielded]); (· first | rfl | simp [Act.eval]); (· exact ⟨_, rfl, rfl⟩); (· kernel_rfl)) | (go_at_call 14; refine (CO.out _).mono ?_; rintro e w14 ⟨rfl, b14⟩))
    go_roundw
    case rel => exact ⟨k + 1, by omega, by go_num, Lib.hid (L13.out.below b14)⟩
    case measure => simp [intOf]; omega
  · have d3 : decide (cost < y5) = false := decide_eq_false hc
    clear gc
    go_wp2_with fail
    go_roundw
    case rel => exact ⟨k + 1, by omega, by go_num, L13⟩
    case measure => simp [intOf]; omega
theorem locateLarge_walk (a0 : Option Addr) (len0 cap0 : Nat) (z0 : List Int) (w : World) (w0 : Buf.IsRow .i64 w a0 len0 cap0 z0) :
    Calls Tryz.prog 4 #[.slice a0 len0 cap0] w fun e w' => e = .returned (.bool true) ∧ Below w.heap.size w w' :=
  (ck_root.2 ⟨(ck_lw1.2 ⟨(ck_lw2.2 ⟨ck_lw3⟩)⟩)⟩) a0 len0 cap0 z0 w w0
end Laws
end Go.Proofs.YtldgihlhioeipaaGreat
