/- The walk of LocateLeast. -/
import Derived.Test.YtdcoemiohaandaaLocGQ
import Derived.Test.YtdcoemiohaandaaGeoK
import Derived.Test.YtdcoemiohaandaaRowS
import Derived.Test.YtdcoemiohaandaaMisP
set_option linter.unusedVariables false
set_option linter.unusedSimpArgs false
namespace Go.Proofs.Ytdcoemiohaandaa
open Go.RowKit
namespace Loc
theorem loc_cells {w : World} {p : Nat} {FN : St} {lo : Int} {A : Bx} (h : w.heap[p]? = some (.cells (lrow FN lo A).toArray 70 (0, 0))) : w.cell? ⟨p, 3, none⟩ = some (.int .i64 FN.t) ∧ w.cell? ⟨p, 4, none⟩ = some (.int .i64 FN.m) ∧ w.cell? ⟨p, 5, none⟩ = some (.int .i64 lo) :=
  ⟨cell_of_row w p 3 _ _ _ h, cell_of_row w p 4 _ _ _ h, cell_of_row w p 5 _ _ _ h⟩
theorem ldmg {P : Program} {ops : Array Oper} {rest : List Oper} {op : Oper} {a : Act} {w : World} {Q : Exit → Act → World → Prop} (ty : TypeId) (x : Operand) (b o : Nat) (cs : List Value) (hc : w.rangeAt b o cs)
    (ho : op.op = .load ty x) (hw : Region.wanted op (yielded ops a.tmps) = true) (hx : a.eval x = .pointer (some ⟨b, o, none⟩)) (hd : ∃ d, P.underlying ty = some d ∧ d.isRow = true) (hi : (P.info? ty).map (·.size) = some cs.length)
    (h : wpList P ops Q rest (a.put op.dst (.agg cs.toArray)) w) : wpList P ops Q (op :: rest) a w := by
  obtain ⟨d, h1, h2⟩ := hd
  exact Mid.wpList_on hw fun K hK => wp_load_mid ty x ho b o hx cs d hc h1 h2 hi (hK _ _ h)
theorem wi_in {p : P3} {A : Bx} (h : inB A p) : Geo.wiB p.1 p.2.1 p.2.2 p.1 p.2.1 p.2.2 A.a A.b A.c A.d A.e A.f = true := by
  unfold inB at h; rw [Geo.wiB_pt]; exact decide_eq_true ⟨h.1, h.2.1, h.2.2.1, h.2.2.2.1, h.2.2.2.2.1, h.2.2.2.2.2⟩
theorem wi_sub {R A : Bx} (h : Sb R A) : Geo.wiB A.a A.b A.c A.d A.e A.f R.a R.b R.c R.d R.e R.f = true := (sub_of h).wi
theorem pv_in {R : Bx} {p : P3} (hR : Geo.BV R.a R.b R.c R.d R.e R.f) (h : inB R p) : Geo.PV p.1 p.2.1 p.2.2 := ((sub_pt h).bv hR).lo
theorem fin_all {A : World} {Ak : Ask} {R : Bx} {q : Pq} (P : Pr A Ak R q) (tol : Int) (t0 : 0 ≤ tol) (hm : ∀ B p, Sb R B → inB B p → Ak.F B ≤ (Ak.G p).2) :
    (fin Ak R tol).fd = true ∧ Inv Ak R (fin Ak R tol) ∧ Fin Ak R tol (fin Ak R tol) := by
  have i := start_inv P.good
  have hw : wgt (add Ak start R).op ≤ ((3000 : Nat) : Int) := by have := i.pot; have := i.tk0; have := P.few; omega
  obtain ⟨j, he⟩ := run_inv P.good tol 3000 _ i hw
  have hf : (fin Ak R tol).fd = true := run_first P.good tol 2999
  exact ⟨hf, j, fin_of j hm he hf t0⟩
end Loc
namespace Laws
open _root_.Go.Proofs.Ytdcoemiohaandaa.Loc
set_option maxHeartbeats 16000000 in
set_option maxRecDepth 100000 in
theorem locateLeast_walk (a0 : Option Addr) (len0 cap0 : Nat) (z0 : List Int) (w : World) (w0 : Buf.IsRow .i64 w a0 len0 cap0 z0) :
    Calls Try.prog 11 #[.slice a0 len0 cap0] w fun e w' => e = .returned (.bool true) ∧ Below w.heap.size w w' := by
  go_enter Try.func11, Try.ntmps11
  go_wp2_with fail
  refine (Src.new_any a0 len0 cap0 z0 w w0).mono ?_
  rintro e0 wA ⟨rfl, m, hd⟩
  have L0 := Lib.hid (Src.Left.refl hd)
  have sA : w.heap.size < wA.heap.size := hd.lt
  clear hd w0
  go_wp2_with fail
  refine (Mis.problem_any 4 6 (by decide) (by decide) (by decide) (by decide) L0.out.di).mono ?_
  rintro e0 w2 ⟨⟨a1, a2, a3, d1, d2, d3, s, b1, b2, n, c1, c2, lo, hi, gp, cpp, L, cp, nl, rfl, hnl, P⟩, hl⟩
  have s2 : wA.heap.size ≤ w2.heap.size := hl.far.size
  replace L0 := Lib.hid (L0.out.trans hl)
  have PG := Lib.hid P
  replace hnl := Lib.hid hnl
  clear hl P
  go_upto_region 3 with ((with_reducible refine Mid.str 63 (.tmp 4) (.tmp 19) w2.heap.size 63 #[.int .i64 0, .int .i64 0, .int .i64 0, .int .i64 0, .int .i64 0, .int .i64 0, .int .i64 0, .slice none 0 0, .slice none 0 0, .slice none 0 0, .int .i64 0] #[.int .i64 a1, .int .i64 a2, .int .i64 a3, .int .i64 d1, .int .i64 d2, .int .i64 d3, .int .i64 s, .slice (some ⟨b1, 0, none⟩) n c1, .slice (some ⟨b2, 0, none⟩) n c2, .slice (some ⟨gp, 0, none⟩) nl cpp, .int .i64 cp] (heap_alloc_new w2 _) ?_ ?_ ?_ ?_ ?_ ?_ ?_ ?_); (· rfl); (· rfl); (· first | rfl | simp [Act.eval]); (· first | rfl | simp [Act.eval]); (· kernel_rfl); (· rfl); (· simp [Value.oneCell']))
  try simp only [Act.put]
  have N3 : Below w2.heap.size w2 ((w2.alloc (.cells #[.int .i64 0, .int .i64 0, .int .i64 0, .int .i64 0, .int .i64 0, .int .i64 0, .int .i64 0, .slice none 0 0, .slice none 0 0, .slice none 0 0, .int .i64 0] 63)).setRow w2.heap.size #[.int .i64 a1, .int .i64 a2, .int .i64 a3, .int .i64 d1, .int .i64 d2, .int .i64 d3, .int .i64 s, .slice (some ⟨b1, 0, none⟩) n c1, .slice (some ⟨b2, 0, none⟩) n c2, .slice (some ⟨gp, 0, none⟩) nl cpp, .int .i64 cp]) := Mid.below_row (Mis.new_block _) _ _ (Nat.le_refl _)
  have K3 := Lib.hid (show ((w2.alloc (.cells #[.int .i64 0, .int .i64 0, .int .i64 0, .int .i64 0, .int .i64 0, .int .i64 0, .int .i64 0, .slice none 0 0, .slice none 0 0, .slice none 0 0, .int .i64 0] 63)).setRow w2.heap.size #[.int .i64 a1, .int .i64 a2, .int .i64 a3, .int .i64 d1, .int .i64 d2, .int .i64 d3, .int .i64 s, .slice (some ⟨b1, 0, none⟩) n c1, .slice (some ⟨b2, 0, none⟩) n c2, .slice (some ⟨gp, 0, none⟩) nl cpp, .int .i64 cp]).heap[w2.heap.size]? = some (.cells #[.int .i64 a1, .int .i64 a2, .int .i64 a3, .int .i64 d1, .int .i64 d2, .int .i64 d3, .int .i64 s, .slice (some ⟨b1, 0, none⟩) n c1, .slice (some ⟨b2, 0, none⟩) n c2, .slice (some ⟨gp, 0, none⟩) nl cpp, .int .i64 cp] 63 (0, 0)) from setRow_heap _ _ _ _ _ _ (heap_alloc_new w2 _))
  obtain ⟨w3, hw3⟩ : ∃ z, z = (w2.alloc (.cells #[.int .i64 0, .int .i64 0, .int .i64 0, .int .i64 0, .int .i64 0, .int .i64 0, .int .i64 0, .slice none 0 0, .slice none 0 0, .slice none 0 0, .int .i64 0] 63)).setRow w2.heap.size #[.int .i64 a1, .int .i64 a2, .int .i64 a3, .int .i64 d1, .int .i64 d2, .int .i64 d3, .int .i64 s, .slice (some ⟨b1, 0, none⟩) n c1, .slice (some ⟨b2, 0, none⟩) n c2, .slice (some ⟨gp, 0, none⟩) nl cpp, .int .i64 cp] := ⟨_, rfl⟩
  rw [← hw3] at N3 K3 ⊢
  obtain ⟨p4, hp4⟩ : ∃ z, z = w2.heap.size := ⟨_, rfl⟩
  have p4g : w.heap.size ≠ p4 := by omega
  rw [← hp4] at K3 ⊢
  have W3 := Lib.hid (PG.out.tv.below N3)
  have R3 := Lib.hid (PG.out.pr.below N3)
  have L3 := Lib.hid (L0.out.below N3)
  clear hw3 hp4 N3 L0 s2
  go_wp2_with fail
  have L4 := Lib.hid (L3.out.below (Mis.new_block (.cells #[.int .i64 0, .int .i64 0, .int .i64 5, .int .i64 20, .int .i64 100] 3)))
  have K4 := Lib.hid (Mis.hb (Mis.new_block (w := w3) (.cells #[.int .i64 0, .int .i64 0, .int .i64 5, .int .i64 20, .int .i64 100] 3)) K3.out)
  have W4 := Lib.hid (W3.out.below (Mis.new_block (.cells #[.int .i64 0, .int .i64 0, .int .i64 5, .int .i64 20, .int .i64 100] 3)))
  have R4 := Lib.hid (R3.out.below (Mis.new_block (.cells #[.int .i64 0, .int .i64 0, .int .i64 5, .int .i64 20, .int .i64 100] 3)))
  refine (Src.pick_any w3.heap.size [0, 0, 5, 20, 100] 5 5 L4.out.di (Src.ints_alloc w3 [0, 0, 5, 20, 100] 3) rfl (by omega) (by omega) (by have := L3.out.di.lt; omega) (by simp)).mono ?_
  rintro e w5 ⟨⟨tol, rfl, htol⟩, hl⟩
  have t0 : 0 ≤ tol ∧ tol ≤ 100 := by simp at htol; omega
  have K5 := Lib.hid (hl.blk K4.out (Ne.symm p4g))
  have gb1 : b1 ≠ w.heap.size := by have := PG.out.m1; omega
  have gb2 : b2 ≠ w.heap.size := by have := PG.out.m2; omega
  have gbp : gp ≠ w.heap.size := by have := PG.out.gB; omega
  have W5 : Hid (Bound.Wide w5 s b1 b2 n lo hi) := Lib.hid ⟨Mis.tv_kept W4.out.tv (hl.far.block b1 W4.out.tv.e1 (by simpa using gb1)) (hl.far.block b2 W4.out.tv.e2 (by simpa using gb2)) hl.far.size, W4.out.re⟩
  have R5 : Hid (Mis.PhR w5 gp L) := Lib.hid (R4.out.kept (hl.far.block gp R4.out.1 (by simpa using gbp)) hl.far.size)
  have B5 := Lib.hid (L4.out.trans hl).di.bel
  clear hl htol K3 K4 W3 W4 R3 R4 L3 L4 gb1 gb2 gbp p4g
  have hR := PG.out.rg (by decide)
  obtain ⟨SP, hSP⟩ := spl_of (R := ⟨a1, a2, a3, d1, d2, d3⟩) hR.bv
  have n9 : L.length ≤ 64 := by have := PG.out.n9; omega
  have c9 : cp ≤ 2000 := by have := PG.out.c9; omega
  have rv : Sb ⟨a1, a2, a3, d1, d2, d3⟩ ⟨a1, a2, a3, d1, d2, d3⟩ := ⟨Int.le_refl _, Int.le_refl _, Int.le_refl _, Int.le_refl _, Int.le_refl _, Int.le_refl _, hR.bv.x, hR.bv.y, hR.bv.z⟩
  have few := few_of 4 (by decide) rv PG.out.s1 PG.out.s2 PG.out.s3
  have P := pr_of (R := ⟨a1, a2, a3, d1, d2, d3⟩) hR W5.out PG.out.ph.s PG.out.n1 n9 PG.out.c0 c9 R5.out hnl.out (by have := PG.out.le; rw [hnl.out]; exact this) c1 c2 hSP few
  have HM := mono_of (R := ⟨a1, a2, a3, d1, d2, d3⟩) hR W5.out PG.out.ph.s PG.out.n1 PG.out.c0
  have FA := fin_all P tol t0.1 HM
  have LO := locate_any P tol t0.1 (by omega) FA.1 FA.2.1
  have F := FA.2.2
  obtain ⟨tb0, tb9⟩ := t0
  obtain ⟨x1, x2, x3⟩ : d1 ≤ a1 + 30 ∧ d2 ≤ a2 + 30 ∧ d3 ≤ a3 + 30 := ⟨hR.s1, hR.s2, hR.s3⟩
  have hbv := Lib.hid hR.bv
  obtain ⟨Rx, hRx⟩ : ∃ z : Bx, z = ⟨a1, a2, a3, d1, d2, d3⟩ := ⟨_, rfl⟩
  obtain ⟨Ak, hAk⟩ : ∃ z : Loc.Ask, z = ⟨Fm s lo hi cp L, Gm s lo hi cp L, SP⟩ := ⟨_, rfl⟩
  rw [← hAk] at P F LO
  obtain ⟨FN, hFN⟩ : ∃ z, z = fin Ak ⟨a1, a2, a3, d1, d2, d3⟩ tol := ⟨_, rfl⟩
  rw [← hFN] at F LO
  obtain ⟨AA, hAA⟩ : ∃ z, z = areaF FN.m (pb (FN.x, FN.y, FN.z)) FN.op := ⟨_, rfl⟩
  obtain ⟨lw, hlw⟩ : ∃ z, z = lowF FN.m FN.op := ⟨_, rfl⟩
  rw [← hAA, ← hlw] at LO
  obtain ⟨f1, f2, f3, f4, f5, f6, f7⟩ := F
  rw [← hlw] at f3 f4
  rw [← hAA] at f5 f6
  have f7' : ∀ p, inB ⟨a1, a2, a3, d1, d2, d3⟩ p → lw ≤ (Ak.G p).2 ∧ ((Ak.G p).2 < FN.m → inB AA p) := fun p hp => by rw [hAA, hlw]; exact f7 p hp
  have g0 := P.g0 _ f1
  rw [f2] at g0
  obtain ⟨m0, m9⟩ : 0 ≤ FN.m ∧ FN.m ≤ 1125899906842624 := g0
  have AT := Lib.hid (P.at_ · · (FN.x, FN.y, FN.z) f1)
  have P2 := Lib.hid P
  have V1 := Lib.hid (wi_in f1)
  have V2 := Lib.hid (wi_in f6)
  have V3 := Lib.hid (wi_sub f5)
  have bvA := Lib.hid (bv_sub hbv.out f5)
  have pvX := Lib.hid (pv_in hbv.out f1)
  replace f1 := Lib.hid f1
  replace f2 := Lib.hid f2
  replace f5 := Lib.hid f5
  replace f6 := Lib.hid f6
  replace f7' := Lib.hid f7'
  replace LO := Lib.hid LO
  replace hAA := Lib.hid hAA
  replace hlw := Lib.hid hlw
  replace hFN := Lib.hid hFN
  replace hAk := Lib.hid hAk
  replace hRx := Lib.hid hRx
  clear f7 P FA HM few rv hR W5 R5 PG hSP n9 c9
  go_upto_region 5 with (first | ((with_reducible refine Mid.ldr 63 (.tmp 4) p4 63 #[.int .i64 a1, .int .i64 a2, .int .i64 a3, .int .i64 d1, .int .i64 d2, .int .i64 d3, .int .i64 s, .slice (some ⟨b1, 0, none⟩) n c1, .slice (some ⟨b2, 0, none⟩) n c2, .slice (some ⟨gp, 0, none⟩) nl cpp, .int .i64 cp] K5.out ?_ ?_ ?_ ?_ ?_ ?_); (· rfl); (· rfl); (· first | rfl | simp [Act.eval]); (· exact ⟨_, rfl, rfl⟩); (· kernel_rfl)) | (go_at_call 44; refine LO.out.mono ?_; rintro e w6 ⟨rfl, b6⟩; have K4 := Lib.hid (Mis.hb b6 K5.out); have B6 := Lib.hid b6; clear b6) | ((with_reducible refine Mid.str 70 (.tmp 6) (.tmp 27) w6.heap.size 70 #[.int .i64 0, .int .i64 0, .int .i64 0, .int .i64 0, .int .i64 0, .int .i64 0, .int .i64 0, .int .i64 0, .int .i64 0, .int .i64 0, .int .i64 0, .int .i64 0] (lrow FN lw AA).toArray (heap_alloc_new w6 _) ?_ ?_ ?_ ?_ ?_ ?_ ?_ ?_); (· rfl); (· rfl); (· first | rfl | simp [Act.eval]); (· first | rfl | simp [Act.eval]); (· kernel_rfl); (· rfl); (· simp [lrow, Value.oneCell'])))
  try simp only [Act.put]
  have N7 : Below w6.heap.size w6 ((w6.alloc (.cells #[.int .i64 0, .int .i64 0, .int .i64 0, .int .i64 0, .int .i64 0, .int .i64 0, .int .i64 0, .int .i64 0, .int .i64 0, .int .i64 0, .int .i64 0, .int .i64 0] 70)).setRow w6.heap.size (lrow FN lw AA).toArray) := Mid.below_row (Mis.new_block _) _ _ (Nat.le_refl _)
  have K6 := Lib.hid (show ((w6.alloc (.cells #[.int .i64 0, .int .i64 0, .int .i64 0, .int .i64 0, .int .i64 0, .int .i64 0, .int .i64 0, .int .i64 0, .int .i64 0, .int .i64 0, .int .i64 0, .int .i64 0] 70)).setRow w6.heap.size (lrow FN lw AA).toArray).heap[w6.heap.size]? = some (.cells (lrow FN lw AA).toArray 70 (0, 0)) from setRow_heap _ _ _ _ _ _ (heap_alloc_new w6 _))
  replace K4 := Lib.hid (Mis.hb N7 K4.out)
  have B7 := Lib.hid (Buf.then_ B6.out N7)
  obtain ⟨w7, hw7⟩ : ∃ z, z = (w6.alloc (.cells #[.int .i64 0, .int .i64 0, .int .i64 0, .int .i64 0, .int .i64 0, .int .i64 0, .int .i64 0, .int .i64 0, .int .i64 0, .int .i64 0, .int .i64 0, .int .i64 0] 70)).setRow w6.heap.size (lrow FN lw AA).toArray := ⟨_, rfl⟩
  rw [← hw7] at K6 K4 B7 ⊢
  obtain ⟨p6, hp6⟩ : ∃ z, z = w6.heap.size := ⟨_, rfl⟩
  rw [← hp6] at K6 ⊢
  clear hw7 hp6 N7 B6 LO K5
  have e3 : decide (lw > FN.m) = false := decide_eq_false (by omega)
  have e4 : IntKind.i64.wrap (FN.m - lw) = FN.m - lw := IntWalk.i64_in _ (by have := f7'.out _ f1.out; have := f4; omega)
  have e5 : decide (FN.m - lw > tol) = false := decide_eq_false (by omega)
  have CO1 := Lib.hid fun w' => Geo.contains_any a1 a2 a3 d1 d2 d3 FN.x FN.y FN.z hbv.out pvX.out w'
  have CO2 := Lib.hid fun w' => Geo.contains_any AA.a AA.b AA.c AA.d AA.e AA.f FN.x FN.y FN.z bvA.out pvX.out w'
  have WI := Lib.hid fun w' => Geo.within_any AA.a AA.b AA.c AA.d AA.e AA.f a1 a2 a3 d1 d2 d3 bvA.out hbv.out w'
  have V1' := V1.out
  have V2' := V2.out
  have V3' := V3.out
  rw [show Geo.wiB FN.x FN.y FN.z FN.x FN.y FN.z a1 a2 a3 d1 d2 d3 = true from V1'] at CO1
  rw [show Geo.wiB FN.x FN.y FN.z FN.x FN.y FN.z AA.a AA.b AA.c AA.d AA.e AA.f = true from V2'] at CO2
  rw [show Geo.wiB AA.a AA.b AA.c AA.d AA.e AA.f a1 a2 a3 d1 d2 d3 = true from V3'] at WI
  clear V1' V2' V3' V1 V2 V3
  have KR : Hid (∀ w' : World, w'.heap[p4]? = some (.cells #[.int .i64 a1, .int .i64 a2, .int .i64 a3, .int .i64 d1, .int .i64 d2, .int .i64 d3, .int .i64 s, .slice (some ⟨b1, 0, none⟩) n c1, .slice (some ⟨b2, 0, none⟩) n c2, .slice (some ⟨gp, 0, none⟩) nl cpp, .int .i64 cp] 63 (0, 0)) → w'.rangeAt p4 0 [.int .i64 a1, .int .i64 a2, .int .i64 a3, .int .i64 d1, .int .i64 d2, .int .i64 d3]) := Lib.hid fun w' h' => Mid.range h' 0 [.int .i64 a1, .int .i64 a2, .int .i64 a3, .int .i64 d1, .int .i64 d2, .int .i64 d3] (by rfl)
  have KA : Hid (∀ w' : World, w'.heap[p6]? = some (.cells (lrow FN lw AA).toArray 70 (0, 0)) → w'.rangeAt p6 6 (box6 AA)) := Lib.hid fun w' h' => Mid.range h' 6 (box6 AA) (by rfl)
  have KP : Hid (∀ w' : World, w'.heap[p6]? = some (.cells (lrow FN lw AA).toArray 70 (0, 0)) → w'.rangeAt p6 0 [.int .i64 FN.x, .int .i64 FN.y, .int .i64 FN.z]) := Lib.hid fun w' h' => Mid.range h' 0 [.int .i64 FN.x, .int .i64 FN.y, .int .i64 FN.z] (by rfl)
  obtain ⟨c3, c4, c5⟩ := loc_cells K6.out
  go_upto_region 7 with (first | ((with_reducible refine ldmg 28 (.tmp 32) p4 0 [.int .i64 a1, .int .i64 a2, .int .i64 a3, .int .i64 d1, .int .i64 d2, .int .i64 d3] (KR.out _ K4.out) ?_ ?_ ?_ ?_ ?_ ?_); (· rfl); (· first | rfl | simp [Region.wanted, yielded]); (· first | rfl | simp [Act.eval]); (· exact ⟨_, rfl, rfl⟩); (· kernel_rfl)) | ((with_reducible refine ldmg 26 (.tmp 34) p6 0 [.int .i64 FN.x, .int .i64 FN.y, .int .i64 FN.z] (KP.out _ K6.out) ?_ ?_ ?_ ?_ ?_ ?_); (· rfl); (· first | rfl | simp [Region.wanted, yielded]); (· first | rfl | simp [Act.eval]); (· exact ⟨_, rfl, rfl⟩); (· kernel_rfl)) | ((with_reducible refine ldmg 28 (.tmp 40) p6 6 (box6 AA) (KA.out _ K6.out) ?_ ?_ ?_ ?_ ?_ ?_); (· rfl); (· first | rfl | simp [Region.wanted, yielded]); (· first | rfl | simp [Act.eval]); (· exact ⟨_, rfl, rfl⟩); (· kernel_rfl)) | ((with_reducible refine ldmg 26 (.tmp 42) p6 0 [.int .i64 FN.x, .int .i64 FN.y, .int .i64 FN.z] (KP.out _ K6.out) ?_ ?_ ?_ ?_ ?_ ?_); (· rfl); (· first | rfl | simp [Region.wanted, yielded]); (· first | rfl | simp [Act.eval]); (· exact ⟨_, rfl, rfl⟩); (· kernel_rfl)) | ((with_reducible refine ldmg 28 (.tmp 48) p6 6 (box6 AA) (KA.out _ K6.out) ?_ ?_ ?_ ?_ ?_ ?_); (· rfl); (· first | rfl | simp [Region.wanted, yielded]); (· first | rfl | simp [Act.eval]); (· exact ⟨_, rfl, rfl⟩); (· kernel_rfl)) | ((with_reducible refine ldmg 28 (.tmp 50) p4 0 [.int .i64 a1, .int .i64 a2, .int .i64 a3, .int .i64 d1, .int .i64 d2, .int .i64 d3] (KR.out _ K4.out) ?_ ?_ ?_ ?_ ?_ ?_); (· rfl); (· first | rfl | simp [Region.wanted, yielded]); (· first | rfl | simp [Act.eval]); (· exact ⟨_, rfl, rfl⟩); (· kernel_rfl)) | (go_at_call 19; (with_reducible refine (CO1.out _).mono ?_); rintro e wn ⟨rfl, bb⟩; replace K4 := Lib.hid (Mis.hb bb K4.out); replace K6 := Lib.hid (Mis.hb bb K6.out); replace B7 := Lib.hid (Buf.then_ B7.out bb); clear bb; try clear c3 c4 c5; obtain ⟨c3, c4, c5⟩ := loc_cells K6.out) | (go_at_call 19; refine (CO2.out _).mono ?_; rintro e wn ⟨rfl, bb⟩; replace K4 := Lib.hid (Mis.hb bb K4.out); replace K6 := Lib.hid (Mis.hb bb K6.out); replace B7 := Lib.hid (Buf.then_ B7.out bb); clear bb; try clear c3 c4 c5; obtain ⟨c3, c4, c5⟩ := loc_cells K6.out) | (go_at_call 27; refine (WI.out _).mono ?_; rintro e wn ⟨rfl, bb⟩; replace K4 := Lib.hid (Mis.hb bb K4.out); replace K6 := Lib.hid (Mis.hb bb K6.out); replace B7 := Lib.hid (Buf.then_ B7.out bb); clear bb; try clear c3 c4 c5; obtain ⟨c3, c4, c5⟩ := loc_cells K6.out))
  have AT2 := AT.out
  simp only [f2.out] at AT2
  replace AT2 := Lib.hid AT2
  have e6 : (FN.t != FN.t) = false := by simp
  have e7 : (FN.m != FN.m) = false := by simp
  clear AT e3 e4 e5 CO1 WI
  go_upto_region 8 with (first | ((with_reducible refine Mid.ldr 63 (.tmp 4) p4 63 #[.int .i64 a1, .int .i64 a2, .int .i64 a3, .int .i64 d1, .int .i64 d2, .int .i64 d3, .int .i64 s, .slice (some ⟨b1, 0, none⟩) n c1, .slice (some ⟨b2, 0, none⟩) n c2, .slice (some ⟨gp, 0, none⟩) nl cpp, .int .i64 cp] K4.out ?_ ?_ ?_ ?_ ?_ ?_); (· rfl); (· rfl); (· first | rfl | simp [Act.eval]); (· exact ⟨_, rfl, rfl⟩); (· kernel_rfl)) | ((with_reducible refine ldmg 26 (.tmp 73) p6 0 [.int .i64 FN.x, .int .i64 FN.y, .int .i64 FN.z] (KP.out _ K6.out) ?_ ?_ ?_ ?_ ?_ ?_); (· rfl); (· first | rfl | simp [Region.wanted, yielded]); (· first | rfl | simp [Act.eval]); (· exact ⟨_, rfl, rfl⟩); (· kernel_rfl)) | (go_at_call 41; refine (AT2.out _ B7.out).mono ?_; rintro e wn ⟨rfl, bb⟩; replace K4 := Lib.hid (Mis.hb bb K4.out); replace K6 := Lib.hid (Mis.hb bb K6.out); replace B7 := Lib.hid (Buf.then_ B7.out bb); clear bb; try clear c3 c4 c5; obtain ⟨c3, c4, c5⟩ := loc_cells K6.out))
  have hbx := hbv.out.x
  have hby := hbv.out.y
  have hbz := hbv.out.z
  obtain ⟨X, hX⟩ : ∃ X : Nat, (X : Int) = d1 - a1 + 1 := ⟨(d1 - a1 + 1).toNat, by omega⟩
  obtain ⟨Y, hY⟩ : ∃ Y : Nat, (Y : Int) = d2 - a2 + 1 := ⟨(d2 - a2 + 1).toNat, by omega⟩
  obtain ⟨Z, hZ⟩ : ∃ Z : Nat, (Z : Int) = d3 - a3 + 1 := ⟨(d3 - a3 + 1).toNat, by omega⟩
  have ALL := Lib.hid (Geo.all_any a1 a2 a3 d1 d2 d3 X Y Z hX hY hZ hbv.out (by omega) (by omega) (by omega))
  have hmem : Hid (∀ p ∈ Geo.Fs a1 a2 a3 Y Z X, inB ⟨a1, a2, a3, d1, d2, d3⟩ p) := Lib.hid fun p hp => by
    obtain ⟨⟨m1, m2⟩, ⟨m3, m4⟩, m5, m6⟩ := Geo.Fs_mem.1 hp
    exact ⟨m1, by show _ ≤ d1; omega, m3, by show _ ≤ d2; omega, m5, by show _ ≤ d3; omega⟩
  have hlen : (Geo.Fs a1 a2 a3 Y Z X).length ≤ 1000000 := by
    rw [Geo.Fs_length]
    have h1 : Y * Z ≤ 50 * 50 := Nat.mul_le_mul (by omega) (by omega)
    have h2 : X * (Y * Z) ≤ 50 * (50 * 50) := Nat.mul_le_mul (by omega) h1
    omega
  clear hX hY hZ hbx hby hbz
  generalize Geo.Fs a1 a2 a3 Y Z X = l at *
  go_wp2_with (first | ((with_reducible refine ldmg 28 (.tmp 93) p4 0 [.int .i64 a1, .int .i64 a2, .int .i64 a3, .int .i64 d1, .int .i64 d2, .int .i64 d3] (KR.out _ K4.out) ?_ ?_ ?_ ?_ ?_ ?_); (· rfl); (· first | rfl | simp [Region.wanted, yielded]); (· first | rfl | simp [Act.eval]); (· exact ⟨_, rfl, rfl⟩); (· kernel_rfl)) | (go_at_call 17; refine (ALL.out _).mono ?_; rintro e wn ⟨⟨va, rfl, own⟩, bb⟩; obtain ⟨ad, nn, ncc, rfl, hnn⟩ := Mis.own_letter own; have OW := Lib.hid own; clear own; replace K4 := Lib.hid (Mis.hb bb K4.out); replace K6 := Lib.hid (Mis.hb bb K6.out); replace B7 := Lib.hid (Buf.then_ B7.out bb); clear bb; try clear c3 c4 c5; obtain ⟨c3, c4, c5⟩ := loc_cells K6.out))
  have nn9 : nn ≤ 1000000 := by rw [hnn.out]; exact hlen
  clear ALL e6 e7 AT2 hlen c3 c4 c5
  go_loopw [97] (fun u wr => ∃ k : Nat, u = .int .i64 (k : Int) ∧ k ≤ nn ∧ Hid (wr.heap[p4]? = some (.cells #[.int .i64 a1, .int .i64 a2, .int .i64 a3, .int .i64 d1, .int .i64 d2, .int .i64 d3, .int .i64 s, .slice (some ⟨b1, 0, none⟩) n c1, .slice (some ⟨b2, 0, none⟩) n c2, .slice (some ⟨gp, 0, none⟩) nl cpp, .int .i64 cp] 63 (0, 0))) ∧ Hid (wr.heap[p6]? = some (.cells (lrow FN lw AA).toArray 70 (0, 0))) ∧ Hid (Below w5.heap.size w5 wr) ∧ Hid (∃ ob, wr.ownsRow ob 26 3 (.slice ad nn ncc) l.length (Row3.cells l))) (fun u _ => nn - (intOf u).toNat)
  case atStart => exact ⟨0, rfl, Nat.zero_le _, K4, K6, B7, Lib.hid ⟨_, OW.out⟩⟩
  case round =>
    clear K4 K6 B7 OW
    obtain ⟨k, rfl, hk, K4, K6, B7, OWe⟩ := hrel
    obtain ⟨ob, OWr⟩ := OWe.out
    have OW := Lib.hid OWr
    clear OWe OWr
    by_cases hkn : k < nn
    · have hkl : k < l.length := by rw [← hnn.out]; exact hkn
      have k1 : (k : Int) < (nn : Int) := by omega
      obtain ⟨p, hp⟩ : ∃ p, p = l[k] := ⟨_, rfl⟩
      have hpin := hmem.out p (by rw [hp]; exact List.getElem_mem hkl)
      have hpk : l[k]? = some p := by rw [hp]; exact List.getElem?_eq_getElem hkl
      obtain ⟨gg, rfl⟩ : ∃ gg : Nat, ad = some ⟨gg, 0, none⟩ := by
        rcases OW.out.2 with ⟨_, e⟩ | ⟨b, _, _, e, _⟩
        · omega
        · injection e with e1 _ _; exact ⟨b, e1⟩
      have RL : Hid (wr.rangeAt gg (k * 3) [.int .i64 p.1, .int .i64 p.2.1, .int .i64 p.2.2]) := Lib.hid fun j u hu => by
        obtain ⟨q0, q1, q2⟩ := Row3.cells_get l k p hpk
        have hc := fun i u (h : (Row3.cells l)[i]? = some u) => World.ownsRow.cells (g := gg) OW.out rfl i u h
        rcases j with _ | _ | _ | j
        · have := hc _ _ q0; rw [Addr.add_lit, Nat.zero_add] at this; rw [← hu]; exact this
        · have := hc _ _ q1; rw [Addr.add_lit, Nat.zero_add] at this; rw [← hu]; exact this
        · have := hc _ _ q2; rw [Addr.add_lit, Nat.zero_add] at this; rw [← hu]; exact this
        · simp at hu
      have ATP := Lib.hid fun w' h' => P2.out.at_ w' h' p hpin
      obtain ⟨g1, g2⟩ := f7'.out p hpin
      obtain ⟨gm0, gm9⟩ := P2.out.g0 p hpin
      have pvp := Lib.hid (pv_in hbv.out hpin)
      have CP := Lib.hid fun w' => Geo.contains_any AA.a AA.b AA.c AA.d AA.e AA.f p.1 p.2.1 p.2.2 bvA.out pvp.out w'
      obtain ⟨tv, htv⟩ : ∃ z, z = (Ak.G p).1 := ⟨_, rfl⟩
      obtain ⟨mv, hmv⟩ : ∃ z, z = (Ak.G p).2 := ⟨_, rfl⟩
      rw [← htv, ← hmv] at ATP
      rw [← hmv] at g1 g2 gm0 gm9
      replace htv := Lib.hid htv
      replace hmv := Lib.hid hmv
      replace hp := Lib.hid hp
      replace hpk := Lib.hid hpk
      clear hpin
      have f4' := f4
      go_upto_region 13 with (first | ((with_reducible refine ldmg 26 (.tmp 99) gg (k * 3) [.int .i64 p.1, .int .i64 p.2.1, .int .i64 p.2.2] RL.out ?_ ?_ ?_ ?_ ?_ ?_); (· rfl); (· first | rfl | simp [Region.wanted, yielded]); (· first | rfl | simp [Act.eval]); (· exact ⟨_, rfl, rfl⟩); (· kernel_rfl)) | ((with_reducible refine Mid.str 26 (.tmp 12) (.tmp 100) wr.heap.size 26 #[.int .i64 0, .int .i64 0, .int .i64 0] #[.int .i64 p.1, .int .i64 p.2.1, .int .i64 p.2.2] (heap_alloc_new wr _) ?_ ?_ ?_ ?_ ?_ ?_ ?_ ?_); (· rfl); (· rfl); (· first | rfl | simp [Act.eval]); (· first | rfl | simp [Act.eval]); (· kernel_rfl); (· rfl); (· simp [Value.oneCell'])))
      try simp only [Act.put]
      have N8 : Below wr.heap.size wr ((wr.alloc (.cells #[.int .i64 0, .int .i64 0, .int .i64 0] 26)).setRow wr.heap.size #[.int .i64 p.1, .int .i64 p.2.1, .int .i64 p.2.2]) := Mid.below_row (Mis.new_block _) _ _ (Nat.le_refl _)
      have K8 := Lib.hid (show ((wr.alloc (.cells #[.int .i64 0, .int .i64 0, .int .i64 0] 26)).setRow wr.heap.size #[.int .i64 p.1, .int .i64 p.2.1, .int .i64 p.2.2]).heap[wr.heap.size]? = some (.cells #[.int .i64 p.1, .int .i64 p.2.1, .int .i64 p.2.2] 26 (0, 0)) from setRow_heap _ _ _ _ _ _ (heap_alloc_new wr _))
      replace K4 := Lib.hid (Mis.hb N8 K4.out)
      replace K6 := Lib.hid (Mis.hb N8 K6.out)
      replace B7 := Lib.hid (Buf.then_ B7.out N8)
      replace OW := Lib.hid (Mis.own_below OW.out N8)
      obtain ⟨w8, hw8⟩ : ∃ z, z = (wr.alloc (.cells #[.int .i64 0, .int .i64 0, .int .i64 0] 26)).setRow wr.heap.size #[.int .i64 p.1, .int .i64 p.2.1, .int .i64 p.2.2] := ⟨_, rfl⟩
      rw [← hw8] at K8 K4 K6 B7 OW ⊢
      obtain ⟨p12, hp12⟩ : ∃ z, z = wr.heap.size := ⟨_, rfl⟩
      rw [← hp12] at K8 ⊢
      clear hw8 hp12 N8 RL
      go_upto_region 14 with (first | ((with_reducible refine Mid.ldr 63 (.tmp 4) p4 63 #[.int .i64 a1, .int .i64 a2, .int .i64 a3, .int .i64 d1, .int .i64 d2, .int .i64 d3, .int .i64 s, .slice (some ⟨b1, 0, none⟩) n c1, .slice (some ⟨b2, 0, none⟩) n c2, .slice (some ⟨gp, 0, none⟩) nl cpp, .int .i64 cp] K4.out ?_ ?_ ?_ ?_ ?_ ?_); (· rfl); (· rfl); (· first | rfl | simp [Act.eval]); (· exact ⟨_, rfl, rfl⟩); (· kernel_rfl)) | ((with_reducible refine Mid.ldr 26 (.tmp 12) p12 26 #[.int .i64 p.1, .int .i64 p.2.1, .int .i64 p.2.2] K8.out ?_ ?_ ?_ ?_ ?_ ?_); (· rfl); (· rfl); (· first | rfl | simp [Act.eval]); (· exact ⟨_, rfl, rfl⟩); (· kernel_rfl)) | (go_at_call 41; refine (ATP.out _ B7.out).mono ?_; rintro e w9 ⟨rfl, bb⟩; replace K4 := Lib.hid (Mis.hb bb K4.out); replace K6 := Lib.hid (Mis.hb bb K6.out); replace K8 := Lib.hid (Mis.hb bb K8.out); replace B7 := Lib.hid (Buf.then_ B7.out bb); replace OW := Lib.hid (Mis.own_below OW.out bb); clear bb))
      obtain ⟨c3, c4, c5⟩ := loc_cells K6.out
      have q1 : decide (mv < lw) = false := decide_eq_false (by omega)
      have q2 : IntKind.i64.wrap (FN.m - tol) = FN.m - tol := IntWalk.i64_in _ (by omega)
      have q3 : decide (mv < FN.m - tol) = false := decide_eq_false (by omega)
      by_cases hlt : mv < FN.m
      · have q4 : decide (mv < FN.m) = true := decide_eq_true hlt
        have V := wi_in (g2 hlt)
        have CP2 := CP.out
        rw [V] at CP2
        replace CP2 := Lib.hid CP2
        go_wp2_with (first | ((with_reducible refine ldmg 28 (.tmp 130) p6 6 (box6 AA) (KA.out _ K6.out) ?_ ?_ ?_ ?_ ?_ ?_); (· rfl); (· first | rfl | simp [Region.wanted, yielded]); (· first | rfl | simp [Act.eval]); (· exact ⟨_, rfl, rfl⟩); (· kernel_rfl)) | ((with_reducible refine Mid.ldrg 26 (.tmp 12) p12 26 #[.int .i64 p.1, .int .i64 p.2.1, .int .i64 p.2.2] K8.out ?_ ?_ ?_ ?_ ?_ ?_); (· rfl); (· first | rfl | simp [Region.wanted, yielded]); (· first | rfl | simp [Act.eval]); (· exact ⟨_, rfl, rfl⟩); (· kernel_rfl)) | (go_at_call 19; refine (CP2.out _).mono ?_; rintro e w10 ⟨rfl, bb⟩; replace K4 := Lib.hid (Mis.hb bb K4.out); replace K6 := Lib.hid (Mis.hb bb K6.out); replace B7 := Lib.hid (Buf.then_ B7.out bb); replace OW := Lib.hid (Mis.own_below OW.out bb); clear bb))
        go_roundw
        case rel => exact ⟨k + 1, by go_num, by omega, K4, K6, B7, Lib.hid ⟨_, OW.out⟩⟩
        case measure => simp [intOf]; omega
      · have q4 : decide (mv < FN.m) = false := decide_eq_false hlt
        go_wp2_with fail
        go_roundw
        case rel => exact ⟨k + 1, by go_num, by omega, K4, K6, B7, Lib.hid ⟨_, OW.out⟩⟩
        case measure => simp [intOf]; omega
    · obtain rfl : k = nn := by omega
      go_wp2_with (go_at_call 45; refine (Loc.awake_any _).mono ?_; rintro e w9 ⟨rfl, hc⟩)
      go_ret
      exact ⟨rfl, Buf.then_ (B5.out.trans (B7.out.mono B5.out.size)) hc⟩
end Laws
end Go.Proofs.Ytdcoemiohaandaa
