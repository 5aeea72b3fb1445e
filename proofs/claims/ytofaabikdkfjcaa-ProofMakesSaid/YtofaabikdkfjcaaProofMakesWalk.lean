/- The walk of ProofMakes. -/
import Derived.Test.YtofaabikdkfjcaaPrfU
import Derived.Test.YtofaabikdkfjcaaLocGQ
import Derived.Test.YtofaabikdkfjcaaMisP
set_option linter.unusedVariables false
set_option linter.unusedSimpArgs false
namespace Go.Proofs.Ytofaabikdkfjcaa
open Go.RowKit
namespace Loc
namespace Prf
theorem wide_g {w w' : World} {s : Int} {b1 b2 n q : Nat} {lo hi : List Int} (h : Bound.Wide w s b1 b2 n lo hi) (f : w.grownBy w' (some q)) (h1 : b1 ≠ q) (h2 : b2 ≠ q) : Bound.Wide w' s b1 b2 n lo hi :=
  ⟨Mis.tv_kept h.tv (f.block b1 h.tv.e1 (fun e => h1 (by cases e; rfl))) (f.block b2 h.tv.e2 (fun e => h2 (by cases e; rfl))) f.size, h.re⟩
theorem lst_of_own {w : World} {B : Nat} {v : Value} {c : List Int} (h : w.ownsRow B 3 1 v c.length (c.map fun z => .int .i64 z)) (h0 : 0 < c.length) : ∃ g cc : Nat, v = .slice (some ⟨g, 0, none⟩) c.length cc ∧ c.length ≤ cc ∧ cc ≤ maxLen ∧ g < w.heap.size ∧ B ≤ g ∧ ∀ j (h : j < c.length), w.cell? ⟨g, 0 + j, none⟩ = some (.int .i64 c[j]) := by
  rcases Mis.own_shape h with ⟨_, e⟩ | ⟨g, cc, rfl, h1, h2, h3, h4⟩
  · omega
  · refine ⟨g, cc, rfl, h1, h2, h3, h4, fun j hj => ?_⟩
    have := World.ownsRow.cells (g := g) h rfl j (.int .i64 c[j]) (by rw [List.getElem?_map, List.getElem?_eq_getElem hj]; rfl)
    rwa [Addr.add_lit] at this
/-- What is asked of a result of the search. -/
theorem lc_of {A : World} {Ak : Ask} {R : Bx} {q : Pq} {tol : Int} {s : St} (P : Pr A Ak R q) (i : Loc.Inv Ak R s) (F : Fin Ak R tol s) : Lc Ak R s (lowF s.m s.op) (areaF s.m (pb (s.x, s.y, s.z)) s.op) := by
  have g := P.g0 _ F.inR
  rw [F.at_] at g
  have l0 : 0 ≤ lowF s.m s.op := by
    rcases (lowF_all s.op s.m).2 with e | ⟨o, ho, e⟩
    · rw [e]; exact g.1
    · obtain ⟨x1, x2⟩ := i.box o ho
      rw [e, x2]; exact (P.f0 _ x1).1
  exact ⟨F.inR, F.at_, F.sub, g.1, g.2, l0, Int.le_trans F.lo1 g.2⟩
end Prf
theorem fin_all {A : World} {Ak : Ask} {R : Bx} {q : Pq} (P : Pr A Ak R q) (tol : Int) (t0 : 0 ≤ tol) (hm : ∀ B p, Sb R B → inB B p → Ak.F B ≤ (Ak.G p).2) :
    (fin Ak R tol).fd = true ∧ Inv Ak R (fin Ak R tol) ∧ Fin Ak R tol (fin Ak R tol) := by
  have i := start_inv P.good
  have hw : wgt (add Ak start R).op ≤ ((3000 : Nat) : Int) := by have := i.pot; have := i.tk0; have := P.few; omega
  obtain ⟨j, he⟩ := run_inv P.good tol 3000 _ i hw
  have hf : (fin Ak R tol).fd = true := run_first P.good tol 2999
  exact ⟨hf, j, fin_of j hm he hf t0⟩
end Loc
namespace Laws
open _root_.Go.Proofs.Ytofaabikdkfjcaa.Loc _root_.Go.Proofs.Ytofaabikdkfjcaa.Loc.Prf
set_option maxHeartbeats 16000000 in
set_option maxRecDepth 100000 in
theorem proofMakes_walk (a0 : Option Addr) (len0 cap0 : Nat) (z0 : List Int) (w : World) (w0 : Buf.IsRow .i64 w a0 len0 cap0 z0) :
    Calls Try.prog 3 #[.slice a0 len0 cap0] w fun e w' => e = .returned (.bool true) ∧ Below w.heap.size w w' := by
  go_enter Try.func3, Try.ntmps3
  go_wp2_with fail
  refine (Src.new_any a0 len0 cap0 z0 w w0).mono ?_
  rintro e0 wA ⟨rfl, m, hd⟩
  have L0 := Lib.hid (Src.Left.refl hd)
  have sA : w.heap.size < wA.heap.size := hd.lt
  clear hd w0
  go_wp2_with fail
  refine (Mis.problem_any 8 6 (by decide) (by decide) (by decide) (by decide) L0.out.di).mono ?_
  rintro e0 w2 ⟨⟨a1, a2, a3, d1, d2, d3, s, b1, b2, n, c1, c2, lo, hi, gp0, cpp, L, cp, nl, rfl, hnl, P⟩, hl⟩
  have s2 : wA.heap.size ≤ w2.heap.size := hl.far.size
  replace L0 := Lib.hid (L0.out.trans hl)
  have PG := Lib.hid P
  replace hnl := Lib.hid hnl
  clear hl P
  go_upto_region 3 with ((with_reducible refine Mid.str 33 (.tmp 4) (.tmp 14) w2.heap.size 33 #[.int .i64 0, .int .i64 0, .int .i64 0, .int .i64 0, .int .i64 0, .int .i64 0, .int .i64 0, .slice none 0 0, .slice none 0 0, .slice none 0 0, .int .i64 0] #[.int .i64 a1, .int .i64 a2, .int .i64 a3, .int .i64 d1, .int .i64 d2, .int .i64 d3, .int .i64 s, .slice (some ⟨b1, 0, none⟩) n c1, .slice (some ⟨b2, 0, none⟩) n c2, .slice (some ⟨gp0, 0, none⟩) nl cpp, .int .i64 cp] (heap_alloc_new w2 _) ?_ ?_ ?_ ?_ ?_ ?_ ?_ ?_); (· rfl); (· rfl); (· first | rfl | simp [Act.eval]); (· first | rfl | simp [Act.eval]); (· kernel_rfl); (· rfl); (· simp [Value.oneCell']))
  try simp only [Act.put]
  have N3 : Below w2.heap.size w2 ((w2.alloc (.cells #[.int .i64 0, .int .i64 0, .int .i64 0, .int .i64 0, .int .i64 0, .int .i64 0, .int .i64 0, .slice none 0 0, .slice none 0 0, .slice none 0 0, .int .i64 0] 33)).setRow w2.heap.size #[.int .i64 a1, .int .i64 a2, .int .i64 a3, .int .i64 d1, .int .i64 d2, .int .i64 d3, .int .i64 s, .slice (some ⟨b1, 0, none⟩) n c1, .slice (some ⟨b2, 0, none⟩) n c2, .slice (some ⟨gp0, 0, none⟩) nl cpp, .int .i64 cp]) := Mid.below_row (Mis.new_block _) _ _ (Nat.le_refl _)
  have K3 := Lib.hid (show ((w2.alloc (.cells #[.int .i64 0, .int .i64 0, .int .i64 0, .int .i64 0, .int .i64 0, .int .i64 0, .int .i64 0, .slice none 0 0, .slice none 0 0, .slice none 0 0, .int .i64 0] 33)).setRow w2.heap.size #[.int .i64 a1, .int .i64 a2, .int .i64 a3, .int .i64 d1, .int .i64 d2, .int .i64 d3, .int .i64 s, .slice (some ⟨b1, 0, none⟩) n c1, .slice (some ⟨b2, 0, none⟩) n c2, .slice (some ⟨gp0, 0, none⟩) nl cpp, .int .i64 cp]).heap[w2.heap.size]? = some (.cells #[.int .i64 a1, .int .i64 a2, .int .i64 a3, .int .i64 d1, .int .i64 d2, .int .i64 d3, .int .i64 s, .slice (some ⟨b1, 0, none⟩) n c1, .slice (some ⟨b2, 0, none⟩) n c2, .slice (some ⟨gp0, 0, none⟩) nl cpp, .int .i64 cp] 33 (0, 0)) from setRow_heap _ _ _ _ _ _ (heap_alloc_new w2 _))
  obtain ⟨w3, hw3⟩ : ∃ z, z = (w2.alloc (.cells #[.int .i64 0, .int .i64 0, .int .i64 0, .int .i64 0, .int .i64 0, .int .i64 0, .int .i64 0, .slice none 0 0, .slice none 0 0, .slice none 0 0, .int .i64 0] 33)).setRow w2.heap.size #[.int .i64 a1, .int .i64 a2, .int .i64 a3, .int .i64 d1, .int .i64 d2, .int .i64 d3, .int .i64 s, .slice (some ⟨b1, 0, none⟩) n c1, .slice (some ⟨b2, 0, none⟩) n c2, .slice (some ⟨gp0, 0, none⟩) nl cpp, .int .i64 cp] := ⟨_, rfl⟩
  rw [← hw3] at N3 K3 ⊢
  obtain ⟨p4, hp4⟩ : ∃ z, z = w2.heap.size := ⟨_, rfl⟩
  have p4g : w.heap.size ≠ p4 := by omega
  rw [← hp4] at K3 ⊢
  have W3 := Lib.hid (PG.out.tv.below N3)
  have R3 := Lib.hid (PG.out.pr.below N3)
  have L3 := Lib.hid (L0.out.below N3)
  clear hw3 hp4 N3 L0 s2
  go_wp2_with fail
  have L4 := Lib.hid (L3.out.below (Mis.new_block (.cells #[.int .i64 0, .int .i64 10, .int .i64 40, .int .i64 200] 3)))
  have K4 := Lib.hid (Mis.hb (Mis.new_block (w := w3) (.cells #[.int .i64 0, .int .i64 10, .int .i64 40, .int .i64 200] 3)) K3.out)
  have W4 := Lib.hid (W3.out.below (Mis.new_block (.cells #[.int .i64 0, .int .i64 10, .int .i64 40, .int .i64 200] 3)))
  have R4 := Lib.hid (R3.out.below (Mis.new_block (.cells #[.int .i64 0, .int .i64 10, .int .i64 40, .int .i64 200] 3)))
  refine (Src.pick_any w3.heap.size [0, 10, 40, 200] 4 4 L4.out.di (Src.ints_alloc w3 [0, 10, 40, 200] 3) rfl (by omega) (by omega) (by have := L3.out.di.lt; omega) (by simp)).mono ?_
  rintro e w5 ⟨⟨tol, rfl, htol⟩, hl⟩
  have t0 : 0 ≤ tol ∧ tol ≤ 200 := by simp at htol; omega
  obtain ⟨tb0, tb9⟩ := t0
  have K5 := Lib.hid (hl.blk K4.out (Ne.symm p4g))
  have gb1 : b1 ≠ w.heap.size := by have := PG.out.m1; omega
  have gb2 : b2 ≠ w.heap.size := by have := PG.out.m2; omega
  have gbp : gp0 ≠ w.heap.size := by have := PG.out.gB; omega
  have W5 : Hid (Bound.Wide w5 s b1 b2 n lo hi) := Lib.hid ⟨Mis.tv_kept W4.out.tv (hl.far.block b1 W4.out.tv.e1 (by simpa using gb1)) (hl.far.block b2 W4.out.tv.e2 (by simpa using gb2)) hl.far.size, W4.out.re⟩
  have R5 : Hid (Mis.PhR w5 gp0 L) := Lib.hid (R4.out.kept (hl.far.block gp0 R4.out.1 (by simpa using gbp)) hl.far.size)
  have D5 := Lib.hid (L4.out.trans hl).di
  clear hl htol K3 K4 W3 W4 R3 R4 L3 L4
  have hR := PG.out.rg (by decide)
  obtain ⟨SP, hSP⟩ := spl_of (R := ⟨a1, a2, a3, d1, d2, d3⟩) hR.bv
  have n9 : L.length ≤ 64 := by have := PG.out.n9; omega
  have c9 : cp ≤ 2000 := by have := PG.out.c9; omega
  have c0 := PG.out.c0
  have rv : Sb ⟨a1, a2, a3, d1, d2, d3⟩ ⟨a1, a2, a3, d1, d2, d3⟩ := ⟨Int.le_refl _, Int.le_refl _, Int.le_refl _, Int.le_refl _, Int.le_refl _, Int.le_refl _, hR.bv.x, hR.bv.y, hR.bv.z⟩
  have few := few_of 8 (by decide) rv PG.out.s1 PG.out.s2 PG.out.s3
  have phs := PG.out.ph.s
  have n1 := PG.out.n1
  have hle : nl ≤ cpp := by have := PG.out.le; rw [hnl.out]; exact this
  have PF := fun (w' : World) (h' : w5.grownBy w' (some w.heap.size)) => pr_of (R := ⟨a1, a2, a3, d1, d2, d3⟩) hR (wide_g W5.out h' gb1 gb2) phs n1 n9 c0 c9 (R5.out.kept (h'.block gp0 R5.out.1 (fun e => gbp (by cases e; rfl))) h'.size) hnl.out hle c1 c2 hSP few
  have HM := mono_of (R := ⟨a1, a2, a3, d1, d2, d3⟩) hR W5.out phs n1 c0
  obtain ⟨Ak, hAk⟩ : ∃ z : Loc.Ask, z = ⟨Fm s lo hi cp L, Gm s lo hi cp L, SP⟩ := ⟨_, rfl⟩
  have hpt : ∀ p, Ak.F (pb p) = (Ak.G p).2 := by rw [hAk]; exact fun p => rfl
  rw [← hAk] at PF
  have P0 := PF w5 (grown_low (Below.refl _ _))
  have FA := fin_all P0 tol tb0 (by rw [hAk]; exact HM)
  obtain ⟨FN, hFN⟩ : ∃ z, z = fin Ak ⟨a1, a2, a3, d1, d2, d3⟩ tol := ⟨_, rfl⟩
  have LC := lc_of P0 FA.2.1 FA.2.2
  have hlm := FA.2.2.lo1
  have PV1 := prv_one FA.2.2 hpt
  obtain ⟨f, hf⟩ : ∃ f : Nat, (f : Int) = np ⟨a1, a2, a3, d1, d2, d3⟩ := ⟨(np ⟨a1, a2, a3, d1, d2, d3⟩).toNat, by have := np_pos rv; omega⟩
  obtain ⟨c, hc, hcl, hc1⟩ := cert_some P0.good PV1 f _ rv (by omega)
  have hc6 : c.length ≤ 3000 := by omega
  have LP := locate_any P0 tol tb0 (by omega) FA.1 FA.2.1
  rw [← hFN] at LC hlm hc LP
  obtain ⟨AA, hAA⟩ : ∃ z, z = areaF FN.m (pb (FN.x, FN.y, FN.z)) FN.op := ⟨_, rfl⟩
  obtain ⟨lw, hlw⟩ : ∃ z, z = lowF FN.m FN.op := ⟨_, rfl⟩
  rw [← hAA, ← hlw] at LC hc LP
  rw [← hlw] at hlm
  have RD : ∀ t2, tol ≤ t2 → rd Ak (prv Ak FN.m lw AA t2) f ⟨a1, a2, a3, d1, d2, d3⟩ c = some [] := fun t2 h2 => by
    have := rd_cert P0.good (pv := prv Ak FN.m lw AA tol) (pv' := prv Ak FN.m lw AA t2) (fun B _ hv => prv_mono h2 B hv) f _ rv (by omega) c hc []
    simpa using this
  have MK := fun (w' : World) (h' : w5.grownBy w' (some w.heap.size)) => make_top (PF w' h') LC hlm tb0 (by omega) f (by omega) hc (by omega)
  have CK := fun (w' : World) (h' : w5.grownBy w' (some w.heap.size)) (t2 : Int) (h2 : tol ≤ t2) (h9 : t2 ≤ 1000) (cv : Value) (cl : List Int) (hv : Lst w' cv cl) (h6 : cl.length ≤ 6001) => check_top (tol := t2) (PF w' h') LC hlm (by omega) (by omega) hv h6 f (by omega)
  replace RD := Lib.hid RD
  replace MK := Lib.hid MK
  replace CK := Lib.hid CK
  replace LP := Lib.hid LP
  replace hc := Lib.hid hc
  have BX : Hid (Below w5.heap.size w5 w5) := Lib.hid (Below.refl _ _)
  clear hR hSP n9 c9 c0 rv few phs n1 PF HM hAk P0 FA hFN hAA hlw LC hlm PV1 hf hcl hpt W5 R5 gb1 gb2 gbp
  go_upto_region 5 with (first | ((with_reducible refine Mid.ldr 33 (.tmp 4) p4 33 #[.int .i64 a1, .int .i64 a2, .int .i64 a3, .int .i64 d1, .int .i64 d2, .int .i64 d3, .int .i64 s, .slice (some ⟨b1, 0, none⟩) n c1, .slice (some ⟨b2, 0, none⟩) n c2, .slice (some ⟨gp0, 0, none⟩) nl cpp, .int .i64 cp] K5.out ?_ ?_ ?_ ?_ ?_ ?_); (· rfl); (· rfl); (· first | rfl | simp [Act.eval]); (· exact ⟨_, rfl, rfl⟩); (· kernel_rfl)) | (go_at_call 18; refine LP.out.mono ?_; rintro e w6 ⟨rfl, b6⟩) | ((with_reducible refine Mid.str 37 (.tmp 6) (.tmp 22) w6.heap.size 37 #[.int .i64 0, .int .i64 0, .int .i64 0, .int .i64 0, .int .i64 0, .int .i64 0, .int .i64 0, .int .i64 0, .int .i64 0, .int .i64 0, .int .i64 0, .int .i64 0] (lrow FN lw AA).toArray (heap_alloc_new w6 _) ?_ ?_ ?_ ?_ ?_ ?_ ?_ ?_); (· rfl); (· rfl); (· first | rfl | simp [Act.eval]); (· first | rfl | simp [Act.eval]); (· kernel_rfl); (· rfl); (· simp [lrow, Value.oneCell'])))
  try simp only [Act.put]
  have NN : Below w6.heap.size w6 ((w6.alloc (.cells #[.int .i64 0, .int .i64 0, .int .i64 0, .int .i64 0, .int .i64 0, .int .i64 0, .int .i64 0, .int .i64 0, .int .i64 0, .int .i64 0, .int .i64 0, .int .i64 0] 37)).setRow w6.heap.size (lrow FN lw AA).toArray) := Mid.below_row (Mis.new_block _) _ _ (Nat.le_refl _)
  have K6 := Lib.hid (show ((w6.alloc (.cells #[.int .i64 0, .int .i64 0, .int .i64 0, .int .i64 0, .int .i64 0, .int .i64 0, .int .i64 0, .int .i64 0, .int .i64 0, .int .i64 0, .int .i64 0, .int .i64 0] 37)).setRow w6.heap.size (lrow FN lw AA).toArray).heap[w6.heap.size]? = some (.cells (lrow FN lw AA).toArray 37 (0, 0)) from setRow_heap _ _ _ _ _ _ (heap_alloc_new w6 _))
  obtain ⟨w7, hw7⟩ : ∃ z, z = (w6.alloc (.cells #[.int .i64 0, .int .i64 0, .int .i64 0, .int .i64 0, .int .i64 0, .int .i64 0, .int .i64 0, .int .i64 0, .int .i64 0, .int .i64 0, .int .i64 0, .int .i64 0] 37)).setRow w6.heap.size (lrow FN lw AA).toArray := ⟨_, rfl⟩
  rw [← hw7] at NN K6 ⊢
  obtain ⟨p6, hp6⟩ : ∃ z, z = w6.heap.size := ⟨_, rfl⟩
  have p6g : w.heap.size ≠ p6 := by have := b6.size; have := D5.out.lt; omega
  rw [← hp6] at K6 ⊢
  have B7 := Lib.hid (Buf.then_ b6 NN)
  have K7 := Lib.hid (Mis.hb B7.out K5.out)
  have g7 : w.heap.size < w7.heap.size := by have := B7.out.size; have := D5.out.lt; omega
  clear hw7 hp6 NN b6 K5 LP BX
  go_upto_region 8 with (first | ((with_reducible refine Mid.ldr 33 (.tmp 4) p4 33 #[.int .i64 a1, .int .i64 a2, .int .i64 a3, .int .i64 d1, .int .i64 d2, .int .i64 d3, .int .i64 s, .slice (some ⟨b1, 0, none⟩) n c1, .slice (some ⟨b2, 0, none⟩) n c2, .slice (some ⟨gp0, 0, none⟩) nl cpp, .int .i64 cp] K7.out ?_ ?_ ?_ ?_ ?_ ?_); (· rfl); (· rfl); (· first | rfl | simp [Act.eval]); (· exact ⟨_, rfl, rfl⟩); (· kernel_rfl)) | ((with_reducible refine Mid.ldr 37 (.tmp 6) p6 37 (lrow FN lw AA).toArray K6.out ?_ ?_ ?_ ?_ ?_ ?_); (· rfl); (· rfl); (· first | rfl | simp [Act.eval]); (· exact ⟨_, rfl, rfl⟩); (· kernel_rfl)) | (go_at_call 20; refine (MK.out _ (grown_low B7.out)).mono ?_; rintro e w8 ⟨v, rfl, ho, b8⟩; obtain ⟨gC, cc, rfl, hcc, hcm, hgl, hgB, hcell⟩ := lst_of_own ho (by omega); clear ho))
  have K8 := Lib.hid (Mis.hb b8 K7.out)
  have K9 := Lib.hid (Mis.hb b8 K6.out)
  have B8 := Lib.hid (Buf.then_ B7.out b8)
  have D8 := Lib.hid (D5.out.below B8.out)
  have gCg : gC ≠ w.heap.size := by omega
  replace hcell := Lib.hid hcell
  clear K6 K7 B7 b8 MK D5
  go_wp2_with fail
  refine (Src.n_any 100 D8.out (by decide) (by decide)).mono ?_
  rintro e w9 ⟨⟨t2, rfl, u0, u9⟩, hl⟩
  have K10 := Lib.hid (hl.blk K8.out (Ne.symm p4g))
  have K11 := Lib.hid (hl.blk K9.out (Ne.symm p6g))
  have G9 := Lib.hid ((grown_low (r := some w.heap.size) B8.out).trans hl.far)
  have LS : Hid (Lst w9 (.slice (some ⟨gC, 0, none⟩) c.length cc) c) := Lib.hid (.inr ⟨gC, 0, cc, rfl, hcc, Nat.lt_of_lt_of_le hgl hl.far.size, fun j hj => by
    rw [World.cell?_of_block (a := ⟨gC, 0 + j, none⟩) (hl.far.block gC hgl (fun e => gCg (by cases e; rfl)))]; exact hcell.out j hj⟩)
  have BD := Lib.hid hl.di.bel
  have C1 := CK.out w9 G9.out tol (Int.le_refl _) (by omega) _ _ LS.out (by omega)
  have C2 := fun (w' : World) (h' : Below w9.heap.size w9 w') => CK.out w' (G9.out.trans (grown_low h')) (tol + t2) (by omega) (by omega) _ _ (LS.out.below h') (by omega)
  rw [RD.out tol (Int.le_refl _), if_pos rfl] at C1
  rw [RD.out (tol + t2) (by omega), if_pos rfl] at C2
  replace C1 := Lib.hid C1
  replace C2 := Lib.hid C2
  clear hl K8 K9 B8 D8 hcell CK RD
  go_wp2_with (first | ((with_reducible refine Mid.ldrg 33 (.tmp 4) p4 33 #[.int .i64 a1, .int .i64 a2, .int .i64 a3, .int .i64 d1, .int .i64 d2, .int .i64 d3, .int .i64 s, .slice (some ⟨b1, 0, none⟩) n c1, .slice (some ⟨b2, 0, none⟩) n c2, .slice (some ⟨gp0, 0, none⟩) nl cpp, .int .i64 cp] K10.out ?_ ?_ ?_ ?_ ?_ ?_); (· rfl); (· first | rfl | simp [Region.wanted, yielded]); (· first | rfl | simp [Act.eval]); (· exact ⟨_, rfl, rfl⟩); (· kernel_rfl)) | ((with_reducible refine Mid.ldrg 37 (.tmp 6) p6 37 (lrow FN lw AA).toArray K11.out ?_ ?_ ?_ ?_ ?_ ?_); (· rfl); (· first | rfl | simp [Region.wanted, yielded]); (· first | rfl | simp [Act.eval]); (· exact ⟨_, rfl, rfl⟩); (· kernel_rfl)) | fail)
  refine C1.out.mono ?_
  rintro e wX ⟨rfl, bX⟩
  have K12 := Lib.hid (Mis.hb bX K10.out)
  have K13 := Lib.hid (Mis.hb bX K11.out)
  have C3 := Lib.hid (C2.out wX bX)
  have BE := Lib.hid (Buf.then_ BD.out bX)
  clear C1 C2 bX K10 K11 BD
  go_wp2_with (first | ((with_reducible refine Mid.ldrg 33 (.tmp 4) p4 33 #[.int .i64 a1, .int .i64 a2, .int .i64 a3, .int .i64 d1, .int .i64 d2, .int .i64 d3, .int .i64 s, .slice (some ⟨b1, 0, none⟩) n c1, .slice (some ⟨b2, 0, none⟩) n c2, .slice (some ⟨gp0, 0, none⟩) nl cpp, .int .i64 cp] K12.out ?_ ?_ ?_ ?_ ?_ ?_); (· rfl); (· first | rfl | simp [Region.wanted, yielded]); (· first | rfl | simp [Act.eval]); (· exact ⟨_, rfl, rfl⟩); (· kernel_rfl)) | ((with_reducible refine Mid.ldrg 37 (.tmp 6) p6 37 (lrow FN lw AA).toArray K13.out ?_ ?_ ?_ ?_ ?_ ?_); (· rfl); (· first | rfl | simp [Region.wanted, yielded]); (· first | rfl | simp [Act.eval]); (· exact ⟨_, rfl, rfl⟩); (· kernel_rfl)) | fail)
  refine C3.out.mono ?_
  rintro e wY ⟨rfl, bY⟩
  have BF := Lib.hid (Buf.then_ BE.out bY)
  clear C3 bY
  go_wp2_with (go_at_call 19; refine (awake29_any _).mono ?_; rintro e wZ ⟨rfl, bZ⟩)
  go_ret
  exact ⟨rfl, Buf.then_ BF.out bZ⟩
end Laws
end Go.Proofs.Ytofaabikdkfjcaa
