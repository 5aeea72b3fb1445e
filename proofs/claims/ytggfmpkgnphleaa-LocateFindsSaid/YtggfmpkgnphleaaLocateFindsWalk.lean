/- The walk of LocateFinds. -/
import Derived.Test.YtggfmpkgnphleaaLocT
import Derived.Test.YtggfmpkgnphleaaLocGQ
import Derived.Test.YtggfmpkgnphleaaPlacBC
import Derived.Test.YtggfmpkgnphleaaInvAB
import Derived.ArgAppend
set_option linter.unusedVariables false
set_option linter.unusedSimpArgs false
namespace Go.Proofs.Ytggfmpkgnphleaa
open Go.RowKit
namespace Loc
theorem loc_cells {w : World} {p : Nat} {FN : St} {lo : Int} {A : Bx} (h : w.heap[p]? = some (.cells (lrow FN lo A).toArray 40 (0, 0))) : w.cell? ⟨p, 3, none⟩ = some (.int .i64 FN.t) ∧ w.cell? ⟨p, 4, none⟩ = some (.int .i64 FN.m) ∧ w.cell? ⟨p, 5, none⟩ = some (.int .i64 lo) :=
  ⟨cell_of_row w p 3 _ _ _ h, cell_of_row w p 4 _ _ _ h, cell_of_row w p 5 _ _ _ h⟩
theorem fin_all {A : World} {Ak : Ask} {R : Bx} {q : Pq} (P : Pr A Ak R q) (tol : Int) (t0 : 0 ≤ tol) (hm : ∀ B p, Sb R B → inB B p → Ak.F B ≤ (Ak.G p).2) :
    (fin Ak R tol).fd = true ∧ Inv Ak R (fin Ak R tol) ∧ Fin Ak R tol (fin Ak R tol) := by
  have i := start_inv P.good
  have hw : wgt (add Ak start R).op ≤ ((3000 : Nat) : Int) := by have := i.pot; have := i.tk0; have := P.few; omega
  obtain ⟨j, he⟩ := run_inv P.good tol 3000 _ i hw
  have hf : (fin Ak R tol).fd = true := run_first P.good tol 2999
  exact ⟨hf, j, fin_of j hm he hf t0⟩
end Loc
namespace Laws
open _root_.Go.Proofs.Ytggfmpkgnphleaa.Loc
set_option maxHeartbeats 16000000 in
set_option maxRecDepth 100000 in
theorem locateFinds_walk (a0 : Option Addr) (len0 cap0 : Nat) (z0 : List Int) (w : World) (w0 : Buf.IsRow .i64 w a0 len0 cap0 z0) :
    Calls Try.prog 5 #[.slice a0 len0 cap0] w fun e w' => e = .returned (.bool true) ∧ Below w.heap.size w w' := by
  obtain ⟨i0, hi0, hz0, hz1, hz2⟩ : ∃ i, Try.prog.info? 37 = some i ∧ i.zero = some (.agg #[.int .i64 0, .int .i64 0, .int .i64 0, .int .i64 0, .int .i64 0, .int .i64 0]) ∧ i.size = 6 ∧ i.bytes = 48 := ⟨_, rfl, by kernel_rfl, by kernel_rfl, by kernel_rfl⟩
  go_enter Try.func5, Try.ntmps5
  go_wp2_with fail
  refine (Src.new_any a0 len0 cap0 z0 w w0).mono ?_
  rintro e0 wA ⟨rfl, m, hd⟩
  have L0 := Lib.hid hd
  have sA : w.heap.size < wA.heap.size := hd.lt
  clear hd w0
  go_wp2_with fail
  refine (Mis.problem_any 5 1 (by decide) (by decide) (by decide) (by decide) L0.out).mono ?_
  rintro e0 w2 ⟨⟨a1, a2, a3, d1, d2, d3, s, b1, b2, n, c1, c2, lo, hi, gp0, cpp, L, cp, nl0, rfl, hnl, P⟩, hl⟩
  have s2 : wA.heap.size ≤ w2.heap.size := hl.far.size
  have D2 := Lib.hid hl.di
  have PG := Lib.hid P
  clear hl P hnl L0
  go_upto_region 3 with ((with_reducible refine Mid.str 33 (.tmp 4) (.tmp 18) w2.heap.size 33 #[.int .i64 0, .int .i64 0, .int .i64 0, .int .i64 0, .int .i64 0, .int .i64 0, .int .i64 0, .slice none 0 0, .slice none 0 0, .slice none 0 0, .int .i64 0] #[.int .i64 a1, .int .i64 a2, .int .i64 a3, .int .i64 d1, .int .i64 d2, .int .i64 d3, .int .i64 s, .slice (some ⟨b1, 0, none⟩) n c1, .slice (some ⟨b2, 0, none⟩) n c2, .slice (some ⟨gp0, 0, none⟩) nl0 cpp, .int .i64 cp] (heap_alloc_new w2 _) ?_ ?_ ?_ ?_ ?_ ?_ ?_ ?_); (· rfl); (· rfl); (· first | rfl | simp [Act.eval]); (· first | rfl | simp [Act.eval]); (· kernel_rfl); (· rfl); (· simp [Value.oneCell']))
  try simp only [Act.put]
  have N3 : Below w2.heap.size w2 ((w2.alloc (.cells #[.int .i64 0, .int .i64 0, .int .i64 0, .int .i64 0, .int .i64 0, .int .i64 0, .int .i64 0, .slice none 0 0, .slice none 0 0, .slice none 0 0, .int .i64 0] 33)).setRow w2.heap.size #[.int .i64 a1, .int .i64 a2, .int .i64 a3, .int .i64 d1, .int .i64 d2, .int .i64 d3, .int .i64 s, .slice (some ⟨b1, 0, none⟩) n c1, .slice (some ⟨b2, 0, none⟩) n c2, .slice (some ⟨gp0, 0, none⟩) nl0 cpp, .int .i64 cp]) := Mid.below_row (Mis.new_block _) _ _ (Nat.le_refl _)
  have K3 := Lib.hid (show ((w2.alloc (.cells #[.int .i64 0, .int .i64 0, .int .i64 0, .int .i64 0, .int .i64 0, .int .i64 0, .int .i64 0, .slice none 0 0, .slice none 0 0, .slice none 0 0, .int .i64 0] 33)).setRow w2.heap.size #[.int .i64 a1, .int .i64 a2, .int .i64 a3, .int .i64 d1, .int .i64 d2, .int .i64 d3, .int .i64 s, .slice (some ⟨b1, 0, none⟩) n c1, .slice (some ⟨b2, 0, none⟩) n c2, .slice (some ⟨gp0, 0, none⟩) nl0 cpp, .int .i64 cp]).heap[w2.heap.size]? = some (.cells #[.int .i64 a1, .int .i64 a2, .int .i64 a3, .int .i64 d1, .int .i64 d2, .int .i64 d3, .int .i64 s, .slice (some ⟨b1, 0, none⟩) n c1, .slice (some ⟨b2, 0, none⟩) n c2, .slice (some ⟨gp0, 0, none⟩) nl0 cpp, .int .i64 cp] 33 (0, 0)) from setRow_heap _ _ _ _ _ _ (heap_alloc_new w2 _))
  obtain ⟨w3, hw3⟩ : ∃ z, z = (w2.alloc (.cells #[.int .i64 0, .int .i64 0, .int .i64 0, .int .i64 0, .int .i64 0, .int .i64 0, .int .i64 0, .slice none 0 0, .slice none 0 0, .slice none 0 0, .int .i64 0] 33)).setRow w2.heap.size #[.int .i64 a1, .int .i64 a2, .int .i64 a3, .int .i64 d1, .int .i64 d2, .int .i64 d3, .int .i64 s, .slice (some ⟨b1, 0, none⟩) n c1, .slice (some ⟨b2, 0, none⟩) n c2, .slice (some ⟨gp0, 0, none⟩) nl0 cpp, .int .i64 cp] := ⟨_, rfl⟩
  rw [← hw3] at N3 K3 ⊢
  have s3 : w2.heap.size + 1 = w3.heap.size := by rw [hw3]; simp [World.setRow]
  obtain ⟨pP, hpP⟩ : ∃ z, z = w2.heap.size := ⟨_, rfl⟩
  have hPa : w2.heap.size ≤ pP := by omega
  have hPb : pP < w3.heap.size := by omega
  rw [← hpP] at K3 ⊢
  have W3 := Lib.hid (PG.out.tv.below N3)
  have D3 := Lib.hid (D2.out.below N3)
  have x1 : b1 < w2.heap.size := PG.out.tv.tv.e1
  have x2 : b2 < w2.heap.size := PG.out.tv.tv.e2
  have y1 := PG.out.m1
  have y2 := PG.out.m2
  clear hw3 hpP N3 D2 s3
  have PTC := Lib.hid (Src.point_any a1 a2 a3 d1 d2 d3 PG.out.bv D3.out)
  have RBX := Lib.hid (Mid.range K3.out 0 [.int .i64 a1, .int .i64 a2, .int .i64 a3, .int .i64 d1, .int .i64 d2, .int .i64 d3] (by rfl))
  go_upto_region 4 with (first | ((with_reducible refine Mid.ldm 28 (.tmp 20) pP 0 [.int .i64 a1, .int .i64 a2, .int .i64 a3, .int .i64 d1, .int .i64 d2, .int .i64 d3] RBX.out ?_ ?_ ?_ ?_ ?_ ?_); (· rfl); (· rfl); (· first | rfl | simp [Act.eval]); (· exact ⟨_, rfl, rfl⟩); (· kernel_rfl)) | (go_at_call 26; refine PTC.out.mono ?_; rintro e w4 ⟨⟨px, py, pz, rfl, p0, p1, p2, p3, p4, p5⟩, hl⟩; have s4 := hl.far.size; have K4 := Lib.hid (hl.blk K3.out (by omega)); have W4 := Lib.hid (Bound.Wide.mk (W3.out.tv.left hl (by omega) (by omega)) W3.out.re); have D4 := Lib.hid hl.di; clear hl) | (go_at_call 17; refine (Src.n_any 400 D4.out (by decide) (by decide)).mono ?_; rintro e w5 ⟨⟨tn, rfl, t0, t9⟩, hl⟩; have K5 := Lib.hid (hl.blk K4.out (by omega)); have W5 := Lib.hid (Bound.Wide.mk (W4.out.tv.left hl (by omega) (by omega)) W4.out.re); have D5 := Lib.hid hl.di; have s5 := hl.far.size; clear hl) | ((with_reducible refine Mid.str 26 (.tmp 5) (.tmp 22) w5.heap.size 26 #[.int .i64 0, .int .i64 0, .int .i64 0] #[.int .i64 px, .int .i64 py, .int .i64 pz] (heap_alloc_new w5 _) ?_ ?_ ?_ ?_ ?_ ?_ ?_ ?_); (· rfl); (· rfl); (· first | rfl | simp [Act.eval]); (· first | rfl | simp [Act.eval]); (· kernel_rfl); (· rfl); (· simp [Value.oneCell'])))
  try simp only [Act.put]
  have N6 : Below w5.heap.size w5 ((w5.alloc (.cells #[.int .i64 0, .int .i64 0, .int .i64 0] 26)).setRow w5.heap.size #[.int .i64 px, .int .i64 py, .int .i64 pz]) := Mid.below_row (Mis.new_block _) _ _ (Nat.le_refl _)
  have KX := Lib.hid (show ((w5.alloc (.cells #[.int .i64 0, .int .i64 0, .int .i64 0] 26)).setRow w5.heap.size #[.int .i64 px, .int .i64 py, .int .i64 pz]).heap[w5.heap.size]? = some (.cells #[.int .i64 px, .int .i64 py, .int .i64 pz] 26 (0, 0)) from setRow_heap _ _ _ _ _ _ (heap_alloc_new w5 _))
  obtain ⟨w6, hw6⟩ : ∃ z, z = (w5.alloc (.cells #[.int .i64 0, .int .i64 0, .int .i64 0] 26)).setRow w5.heap.size #[.int .i64 px, .int .i64 py, .int .i64 pz] := ⟨_, rfl⟩
  rw [← hw6] at N6 KX ⊢
  obtain ⟨pX, hpX⟩ : ∃ z, z = w5.heap.size := ⟨_, rfl⟩
  have hX : pP < pX := by omega
  rw [← hpX] at KX ⊢
  have K6 := Lib.hid (Mis.hb N6 K5.out)
  have W6 := Lib.hid (W5.out.below N6)
  have D6 := Lib.hid (D5.out.below N6)
  clear hw6 hpX N6 K3 K4 K5 W3 W4 W5 D3 D4 D5 RBX PTC
  have c9 := cell_of_row w6 pP 9 _ _ _ K6.out
  have f9 := frozen_of_row w6 pP 9 _ _ K6.out
  have og := D6.out.lt
  have M7 : Hid (Mis.FM w w.heap.size a0 m cap0 z0 pP pX b1 b2 n (fun v => #[.int .i64 a1, .int .i64 a2, .int .i64 a3, .int .i64 d1, .int .i64 d2, .int .i64 d3, .int .i64 s, .slice (some ⟨b1, 0, none⟩) n c1, .slice (some ⟨b2, 0, none⟩) n c2, v, .int .i64 cp]) #[.int .i64 px, .int .i64 py, .int .i64 pz] s lo hi (w6.setCell ⟨pP, 9, none⟩ (.slice none 0 0)) (.slice none 0 0) (.slice none 0 0) 0 (Mis.cellsP [])) := Lib.hid (Mis.FM.store7 (v7 := .slice (some ⟨gp0, 0, none⟩) nl0 cpp) ⟨D6.out, World.ownsRow_nil _ _ _ _, K6.out, KX.out, W6.out, by omega, hX, by omega, by omega, by omega, by omega⟩ ⟨_, _, _, _, _, _, _, _, _, _, fun _ => rfl⟩ _)
  go_upto_region 5 with fail
  obtain ⟨w7, hw7⟩ : ∃ z, z = w6.setCell ⟨pP, 9, none⟩ (.slice none 0 0) := ⟨_, rfl⟩
  rw [← hw7] at M7 ⊢
  clear hw7 c9 f9 K6 KX W6 D6
  go_wp2_with fail
  refine (Src.n_any 6 M7.out.di (by decide) (by decide)).mono ?_
  rintro e w8 ⟨⟨tot0, rfl, u0, u9⟩, hl⟩
  have M8 := Lib.hid (M7.out.trans hl)
  clear hl M7
  obtain ⟨T, hT⟩ : ∃ T, T = 1000 + tn := ⟨_, rfl⟩
  have T0 : 1000 ≤ T := by omega
  have T9 : T ≤ 1400 := by omega
  go_wp2_with fail
  rw [← hT]
  obtain ⟨tt, htt⟩ : ∃ tt : Nat, (tt : Int) = 1 + tot0 := ⟨(1 + tot0).toNat, by omega⟩
  rw [← htt]
  have tt1 : 1 ≤ tt := by omega
  have tt9 : tt ≤ 6 := by omega
  clear hT t0 t9 htt u0 u9 s2 s4 s5 hPa hPb x1 x2 y1 y2
  go_loopw [7] (fun u wr => ∃ (mm nl : Nat) (ad : Option Addr) (kk cc : Nat) (M : List Mis.Ph), u = .int .i64 (mm : Int) ∧ nl + mm = tt ∧ Hid (kk = nl) ∧ Hid (M.length = nl) ∧ Hid (Mis.FitAll s lo hi px py pz T M) ∧ Hid (Mis.FM w w.heap.size a0 m cap0 z0 pP pX b1 b2 n (fun v => #[.int .i64 a1, .int .i64 a2, .int .i64 a3, .int .i64 d1, .int .i64 d2, .int .i64 d3, .int .i64 s, .slice (some ⟨b1, 0, none⟩) n c1, .slice (some ⟨b2, 0, none⟩) n c2, v, .int .i64 cp]) #[.int .i64 px, .int .i64 py, .int .i64 pz] s lo hi wr (.slice ad kk cc) (.slice ad kk cc) kk (Mis.cellsP M))) (fun u _ => (intOf u).toNat)
  case atStart => exact ⟨tt, 0, none, 0, 0, [], rfl, by omega, Lib.hid rfl, Lib.hid rfl, Lib.hid (fun k q hq => by simp at hq), M8⟩
  case round =>
    clear M8
    obtain ⟨mm, nl, ad, kk, cc, M, rfl, htm, hkk, hMl, HF, MM⟩ := hrel
    by_cases hm0 : 0 < mm
    · have d0 : 0 < (mm : Int) := by omega
      go_upto_region 9 with (first | (go_at_call 27; refine (Src.phase_any MM.out.di).mono ?_; rintro e w9 ⟨⟨x, y, z, E, Lp, Wt, rfl, h1, h2, h3, h4, h5, h6, h7, h8, h9, h10, h11, h12⟩, hl⟩; have M9 := Lib.hid (MM.out.trans hl); clear hl) | ((with_reducible refine Mid.str 37 (.tmp 8) (.tmp 35) w9.heap.size 37 #[.int .i64 0, .int .i64 0, .int .i64 0, .int .i64 0, .int .i64 0, .int .i64 0] #[.int .i64 x, .int .i64 y, .int .i64 z, .int .i64 E, .int .i64 Lp, .int .i64 Wt] (heap_alloc_new w9 _) ?_ ?_ ?_ ?_ ?_ ?_ ?_ ?_); (· rfl); (· rfl); (· first | rfl | simp [Act.eval]); (· first | rfl | simp [Act.eval]); (· kernel_rfl); (· rfl); (· simp [Value.oneCell'])))
      try simp only [Act.put]
      have NA : Below w9.heap.size w9 ((w9.alloc (.cells #[.int .i64 0, .int .i64 0, .int .i64 0, .int .i64 0, .int .i64 0, .int .i64 0] 37)).setRow w9.heap.size #[.int .i64 x, .int .i64 y, .int .i64 z, .int .i64 E, .int .i64 Lp, .int .i64 Wt]) := Mid.below_row (Mis.new_block _) _ _ (Nat.le_refl _)
      have KA := Lib.hid (show ((w9.alloc (.cells #[.int .i64 0, .int .i64 0, .int .i64 0, .int .i64 0, .int .i64 0, .int .i64 0] 37)).setRow w9.heap.size #[.int .i64 x, .int .i64 y, .int .i64 z, .int .i64 E, .int .i64 Lp, .int .i64 Wt]).heap[w9.heap.size]? = some (.cells #[.int .i64 x, .int .i64 y, .int .i64 z, .int .i64 E, .int .i64 Lp, .int .i64 Wt] 37 (0, 0)) from setRow_heap _ _ _ _ _ _ (heap_alloc_new w9 _))
      have MA := Lib.hid (M9.out.below NA)
      have zX := (Array.getElem?_eq_some_iff.1 M9.out.k8).1
      have zO : Hid (∀ k, (Value.slice ad kk cc).ownBlock = some k → k ≠ w9.heap.size) := Lib.hid fun k hk => by have := (M9.out.own.lt k hk).2; omega
      obtain ⟨wB, hwB⟩ : ∃ zz, zz = (w9.alloc (.cells #[.int .i64 0, .int .i64 0, .int .i64 0, .int .i64 0, .int .i64 0, .int .i64 0] 37)).setRow w9.heap.size #[.int .i64 x, .int .i64 y, .int .i64 z, .int .i64 E, .int .i64 Lp, .int .i64 Wt] := ⟨_, rfl⟩
      rw [← hwB] at KA MA ⊢
      obtain ⟨pA, hpA⟩ : ∃ z, z = w9.heap.size := ⟨_, rfl⟩
      rw [← hpA] at KA zO ⊢
      have hXA : pX < pA := by omega
      clear hwB hpA NA MM M9 zX
      have R := PG.out.rg (by decide)
      have g0 := R.x0
      have g1 := R.x1
      have g2 := R.y0
      have g3 := R.y1
      have g4 := R.z0
      have g5 := R.z1
      have g6 := PG.out.s1
      have g7 := PG.out.s2
      have g8 := PG.out.s3
      have SQ := Lib.hid fun w' => Geo.square_yes x y z px py pz ⟨by omega, by omega, by omega, by omega, by omega, by omega⟩ ⟨by omega, by omega, by omega, by omega, by omega, by omega⟩ w'
      have q1 := Geo.prod_bd (u := x - px) (m := 100) (by omega) (by omega)
      have q2 := Geo.prod_bd (u := y - py) (m := 100) (by omega) (by omega)
      have q3 := Geo.prod_bd (u := z - pz) (m := 100) (by omega) (by omega)
      have hD9 : Geo.sq3 x y z px py pz ≤ 160000 := by unfold Geo.sq3; omega
      have hD0 : 0 ≤ Geo.sq3 x y z px py pz := by unfold Geo.sq3; omega
      obtain ⟨D, hD⟩ : ∃ D, D = Geo.sq3 x y z px py pz := ⟨_, rfl⟩
      rw [← hD] at SQ hD9 hD0
      have FL := Lib.hid fun w' => Root.floor_any D w' hD0 (by omega)
      have CE := Bound.ce400 hD0 hD9
      obtain ⟨r, hr⟩ : ∃ r, r = Root.rt D 32 := ⟨_, rfl⟩
      rw [← hr] at FL CE
      have r0 : 0 ≤ r := CE.1
      have r9 : r ≤ 400 := by omega
      have s1 := MA.out.tv.tv.s1
      have s9 := MA.out.tv.tv.s9
      have n9 := MA.out.tv.tv.n9
      obtain ⟨q, hq, hqn⟩ := Trav.idx_lo (s := s) (n := n) (x := r) s1 r0 (by have := MA.out.tv.re; omega)
      have hBD := MA.out.tv.bd hD0 hD9
      have hLO : Bound.LO s lo D = lo.getD q 0 := by unfold Bound.LO; rw [← hr, ← hq]; simp
      rw [hLO] at hBD
      obtain ⟨lq, hlq⟩ : ∃ lq, lq = lo.getD q 0 := ⟨_, rfl⟩
      rw [← hlq] at hLO hBD
      have l0 : 0 ≤ lq := hBD.1
      have l9 : lq ≤ 1099511627776 := by omega
      have LW := Lib.hid fun wx (h : Bound.Wide wx s b1 b2 n lo hi) => h.tv.at1 q hqn
      rw [← hlq] at LW
      have RA := Lib.hid fun w' (h' : Below wB.heap.size wB w') => Mid.range (Mis.hb h' KA.out) 0 [.int .i64 x, .int .i64 y, .int .i64 z] (by rfl)
      have KXx := Lib.hid fun w' (h' : Below wB.heap.size wB w') => Mis.hb h' MA.out.k8
      have hPS := Lib.hid (show Geo.sq3 x y z px py pz ≤ 160000 ∧ 0 ≤ Geo.sq3 x y z px py pz ∧ Bound.LO s lo (Geo.sq3 x y z px py pz) = lq by rw [← hD]; exact ⟨hD9, hD0, hLO⟩)
      replace hq := hq.symm
      clear R g0 g1 g2 g3 g4 g5 g6 g7 g8 q1 q2 q3 CE hBD hr hlq hD hLO
      go_upto_region 10 with (first | ((with_reducible refine Mid.ldm 26 (.tmp 36) pA 0 [.int .i64 x, .int .i64 y, .int .i64 z] (RA.out _ (Below.refl _ _)) ?_ ?_ ?_ ?_ ?_ ?_); (· rfl); (· rfl); (· first | rfl | simp [Act.eval]); (· exact ⟨_, rfl, rfl⟩); (· kernel_rfl)) | ((with_reducible refine Mid.ldr 26 (.tmp 5) pX 26 #[.int .i64 px, .int .i64 py, .int .i64 pz] (KXx.out _ (Below.refl _ _)) ?_ ?_ ?_ ?_ ?_ ?_); (· rfl); (· rfl); (· first | rfl | simp [Act.eval]); (· exact ⟨_, rfl, rfl⟩); (· kernel_rfl)) | (go_at_call 29; refine (SQ.out _).mono ?_; rintro e wC ⟨rfl, bC⟩) | (go_at_call 28; refine (FL.out _).mono ?_; rintro e wD ⟨rfl, hwD⟩; replace hwD := hwD.symm; subst hwD))
      have MC := Lib.hid (MA.out.below bC)
      have KC := Lib.hid (Mis.hb bC KA.out)
      clear bC SQ FL RA KXx KA MA
      have e1 : decide (r < 0) = false := decide_eq_false (by omega)
      have e2 : decide ((q : Int) ≥ (n : Int)) = false := decide_eq_false (by omega)
      have e3 : ¬ s = 0 := by omega
      have e4 : IntKind.i64.wrap (q : Int) = q := IntWalk.i64_in _ (by omega)
      obtain ⟨f0, f1, f2, f3, f4, f5, f6, f7, f8, f9, f10⟩ := Mis.c11 MC.out.k7
      go_quiet (fail)
      have e5 : decide (n ≤ q) = false := decide_eq_false (by omega)
      try simp only [hq, e4, e5]
      clear e5
      replace hq := Lib.hid hq
      clear e4
      obtain ⟨wE, hwE⟩ : ∃ zz, zz = wC.drewN nq := ⟨_, rfl⟩
      have YE : Below wC.heap.size wC wE := by rw [hwE]; exact Buf.below_drewN (Below.refl _ _) _
      rw [← hwE]
      have ME := Lib.hid (MC.out.below YE)
      have KE := Lib.hid (Mis.hb YE KC.out)
      clear f0 f1 f2 f3 f4 f5 f6 f7 f8 f9 f10 hwE YE MC KC e1 e2
      go_upto_region 12 with fail
      have hw0 : Below wE.heap.size wE wE.drew := (Below.refl _ _).drew
      refine wp_region_noPanic ?_
      refine wp_region_any (by kernel_rfl) ?_
      refine Inv.wpAny_inv (fun k => k == 12 || k == 13) [55, 56, 57, 58, 59, 60, 61, 62, 63, 64, 65, 66] (fun w' => Below wE.heap.size wE w') (fun _ w1 w2 => Below w1.heap.size w1 w2) (fun k => ([fun v_ w_ => v_ = .int .i64 T, fun v_ w_ => v_ = .pointer (some ⟨pP, 6, none⟩), fun v_ w_ => v_ = .pointer (some ⟨pP, 7, none⟩), fun v_ w_ => v_ = .slice (some ⟨b1, 0, none⟩) n c1, fun v_ w_ => v_ = .int .i64 r, fun v_ w_ => v_ = .pointer (some ⟨pP, 6, none⟩), fun v_ w_ => v_ = .pointer (some ⟨pP, 6, none⟩), fun v_ w_ => v_ = .int .i64 s, fun v_ w_ => v_ = .int .i64 (q : Int), fun v_ w_ => v_ = .pointer (some ⟨b1, q, none⟩), fun v_ w_ => v_ = .int .i64 lq, fun v_ w_ => v_ = .int .i64 (T + lq), fun v_ w_ => True, fun v_ w_ => True] : List (Value → World → Prop)).getD k (fun _ _ => True)) _ (fun σ => by simp only [Inv.putAll, List.foldl_cons, List.foldl_nil, Act.put, List.setIfInBounds_toArray, List.set_cons_zero, List.set_cons_succ]; rfl) (by kernel_rfl) (by kernel_rfl) ?_ hw0 ?_ ?_ 2 #[true, true, true, true, true, true, true, true, true, true, true, true, false, false] (by kernel_rfl) (by kernel_rfl) ?_
      · intro j k v w1 w2 hjk hv hr
        rcases k with _ | k
        · exact hv
        rcases k with _ | k
        · exact hv
        rcases k with _ | k
        · exact hv
        rcases k with _ | k
        · exact hv
        rcases k with _ | k
        · exact hv
        rcases k with _ | k
        · exact hv
        rcases k with _ | k
        · exact hv
        rcases k with _ | k
        · exact hv
        rcases k with _ | k
        · exact hv
        rcases k with _ | k
        · exact hv
        rcases k with _ | k
        · exact hv
        rcases k with _ | k
        · exact hv
        rcases k with _ | k
        · exact hv
        rcases k with _ | k
        · exact hv
        · exact hv
      · intro k t hl hd
        rcases k with _ | k
        · exact absurd hl (by decide +kernel)
        rcases k with _ | k
        · exact absurd hl (by decide +kernel)
        rcases k with _ | k
        · exact absurd hl (by decide +kernel)
        rcases k with _ | k
        · exact absurd hl (by decide +kernel)
        rcases k with _ | k
        · exact absurd hl (by decide +kernel)
        rcases k with _ | k
        · exact absurd hl (by decide +kernel)
        rcases k with _ | k
        · exact absurd hl (by decide +kernel)
        rcases k with _ | k
        · exact absurd hl (by decide +kernel)
        rcases k with _ | k
        · exact absurd hl (by decide +kernel)
        rcases k with _ | k
        · exact absurd hl (by decide +kernel)
        rcases k with _ | k
        · exact absurd hl (by decide +kernel)
        rcases k with _ | k
        · exact absurd hl (by decide +kernel)
        rcases k with _ | k
        · exact absurd hl (by decide +kernel)
        rcases k with _ | k
        · exact absurd hl (by decide +kernel)
        · simp at hd
      · show Inv.Steps _ _ _ _ _ _ _ _ [0, 1, 2, 3, 4, 5, 6, 7, 8, 9, 10, 11]
        refine Inv.Steps.go (by decide) (by rfl) (fun σ wx hw hd K hK => ?_) ?_
        · simp only [List.getElem_toArray, List.getElem_cons_zero, List.getElem_cons_succ, Act.put, List.setIfInBounds_toArray, List.set_cons_zero, List.set_cons_succ] at hK ⊢
          go_simp
          exact hK.out _ _ hw (Below.refl _ _) (rfl)
        refine Inv.Steps.go (by decide) (by rfl) (fun σ wx hw hd K hK => ?_) ?_
        · simp only [List.getElem_toArray, List.getElem_cons_zero, List.getElem_cons_succ, Act.put, List.setIfInBounds_toArray, List.set_cons_zero, List.set_cons_succ] at hK ⊢
          go_simp
          exact hK.out _ _ hw (Below.refl _ _) (rfl)
        refine Inv.Steps.go (by decide) (by rfl) (fun σ wx hw hd K hK => ?_) ?_
        · obtain e56 : (σ 56) = .pointer (some ⟨pP, 6, none⟩) := hd 1 (some 56) (by kernel_rfl) (by rfl)
          simp only [List.getElem_toArray, List.getElem_cons_zero, List.getElem_cons_succ, Act.put, List.setIfInBounds_toArray, List.set_cons_zero, List.set_cons_succ, e56] at hK ⊢
          go_simp
          exact hK.out _ _ hw (Below.refl _ _) (rfl)
        refine Inv.Steps.go (by decide) (by rfl) (fun σ wx hw hd K hK => ?_) ?_
        · obtain e57 : (σ 57) = .pointer (some ⟨pP, 7, none⟩) := hd 2 (some 57) (by kernel_rfl) (by rfl)
          simp only [List.getElem_toArray, List.getElem_cons_zero, List.getElem_cons_succ, Act.put, List.setIfInBounds_toArray, List.set_cons_zero, List.set_cons_succ, e57] at hK ⊢
          obtain ⟨f0, f1, f2, f3, f4, f5, f6, f7, f8, f9, f10⟩ := Mis.c11 (Mis.hb hw ME.out.k7)
          go_simp
          exact hK.out _ _ hw (Below.refl _ _) (rfl)
        refine Inv.Steps.go (by decide) (by rfl) (fun σ wx hw hd K hK => ?_) ?_
        · simp only [List.getElem_toArray, List.getElem_cons_zero, List.getElem_cons_succ, Act.put, List.setIfInBounds_toArray, List.set_cons_zero, List.set_cons_succ] at hK ⊢
          go_simp
          exact hK.out _ _ hw (Below.refl _ _) (rfl)
        refine Inv.Steps.go (by decide) (by rfl) (fun σ wx hw hd K hK => ?_) ?_
        · simp only [List.getElem_toArray, List.getElem_cons_zero, List.getElem_cons_succ, Act.put, List.setIfInBounds_toArray, List.set_cons_zero, List.set_cons_succ] at hK ⊢
          go_simp
          exact hK.out _ _ hw (Below.refl _ _) (rfl)
        refine Inv.Steps.go (by decide) (by rfl) (fun σ wx hw hd K hK => ?_) ?_
        · obtain e60 : (σ 60) = .pointer (some ⟨pP, 6, none⟩) := hd 5 (some 60) (by kernel_rfl) (by rfl)
          simp only [List.getElem_toArray, List.getElem_cons_zero, List.getElem_cons_succ, Act.put, List.setIfInBounds_toArray, List.set_cons_zero, List.set_cons_succ, e60] at hK ⊢
          go_simp
          exact hK.out _ _ hw (Below.refl _ _) (rfl)
        refine Inv.Steps.go (by decide) (by rfl) (fun σ wx hw hd K hK => ?_) ?_
        · obtain e61 : (σ 61) = .pointer (some ⟨pP, 6, none⟩) := hd 6 (some 61) (by kernel_rfl) (by rfl)
          simp only [List.getElem_toArray, List.getElem_cons_zero, List.getElem_cons_succ, Act.put, List.setIfInBounds_toArray, List.set_cons_zero, List.set_cons_succ, e61] at hK ⊢
          obtain ⟨f0, f1, f2, f3, f4, f5, f6, f7, f8, f9, f10⟩ := Mis.c11 (Mis.hb hw ME.out.k7)
          go_simp
          exact hK.out _ _ hw (Below.refl _ _) (rfl)
        refine Inv.Steps.go (by decide) (by rfl) (fun σ wx hw hd K hK => ?_) ?_
        · obtain e59 : (σ 59) = .int .i64 r := hd 4 (some 59) (by kernel_rfl) (by rfl)
          obtain e62 : (σ 62) = .int .i64 s := hd 7 (some 62) (by kernel_rfl) (by rfl)
          simp only [List.getElem_toArray, List.getElem_cons_zero, List.getElem_cons_succ, Act.put, List.setIfInBounds_toArray, List.set_cons_zero, List.set_cons_succ, e59, e62] at hK ⊢
          have hq1 : r.tdiv s = (q : Int) := by rw [Int.tdiv_eq_ediv_of_nonneg r0]; exact hq.out
          have qw : IntKind.i64.wrap (q : Int) = q := IntWalk.i64_in _ (by omega)
          go_simp
          try rw [hq1, qw]
          exact hK.out _ _ hw (Below.refl _ _) (rfl)
        refine Inv.Steps.go (by decide) (by rfl) (fun σ wx hw hd K hK => ?_) ?_
        · obtain e58 : (σ 58) = .slice (some ⟨b1, 0, none⟩) n c1 := hd 3 (some 58) (by kernel_rfl) (by rfl)
          obtain e63 : (σ 63) = .int .i64 (q : Int) := hd 8 (some 63) (by kernel_rfl) (by rfl)
          simp only [List.getElem_toArray, List.getElem_cons_zero, List.getElem_cons_succ, Act.put, List.setIfInBounds_toArray, List.set_cons_zero, List.set_cons_succ, e58, e63] at hK ⊢
          have hqn2 : (q : Int) < (n : Int) := by omega
          go_simp
          exact hK.out _ _ hw (Below.refl _ _) (rfl)
        refine Inv.Steps.go (by decide) (by rfl) (fun σ wx hw hd K hK => ?_) ?_
        · obtain e64 : (σ 64) = .pointer (some ⟨b1, q, none⟩) := hd 9 (some 64) (by kernel_rfl) (by rfl)
          simp only [List.getElem_toArray, List.getElem_cons_zero, List.getElem_cons_succ, Act.put, List.setIfInBounds_toArray, List.set_cons_zero, List.set_cons_succ, e64] at hK ⊢
          have hcell := LW.out wx (ME.out.below hw).tv
          go_simp
          exact hK.out _ _ hw (Below.refl _ _) (rfl)
        refine Inv.Steps.go (by decide) (by rfl) (fun σ wx hw hd K hK => ?_) ?_
        · obtain e55 : (σ 55) = .int .i64 T := hd 0 (some 55) (by kernel_rfl) (by rfl)
          obtain e65 : (σ 65) = .int .i64 lq := hd 10 (some 65) (by kernel_rfl) (by rfl)
          simp only [List.getElem_toArray, List.getElem_cons_zero, List.getElem_cons_succ, Act.put, List.setIfInBounds_toArray, List.set_cons_zero, List.set_cons_succ, e55, e65] at hK ⊢
          have qw : IntKind.i64.wrap (T + lq) = T + lq := IntWalk.i64_in _ (by omega)
          go_simp
          try rw [qw]
          exact hK.out _ _ hw (Below.refl _ _) (rfl)
        exact Inv.Steps.nil
      · intro σ wx hw hd
        obtain e66 : (σ 66) = .int .i64 (T + lq) := hd 11 (some 66) (by rfl) (by rfl)
        simp only [e66]
        refine Inv.take (i := 12) (v := .pointer (some ⟨pA, 3, none⟩)) (by decide) rfl (by kernel_rfl) (by kernel_rfl) (by kernel_rfl) (fun _ _ _ h => h) (by rfl) (fun w' => ?_) ?_
        · simp only [List.getElem_toArray, List.getElem_cons_zero, List.getElem_cons_succ]
          go_simp
        try simp only [Act.put, List.setIfInBounds_toArray, List.set_cons_zero, List.set_cons_succ]
        have N9 := Lib.hid (Mis.hb hw KE.out)
        have x3 := cell_of_row wx pA 3 _ _ _ N9.out
        have y3 := frozen_of_row wx pA 3 _ _ N9.out
        refine Inv.one (i := 13) (by decide) (by kernel_rfl) (by rfl) (fun K hK => ?_)
        simp only [List.getElem_toArray, List.getElem_cons_zero, List.getElem_cons_succ, Act.put, List.setIfInBounds_toArray, List.set_cons_zero, List.set_cons_succ] at hK ⊢
        go_simp
        refine hK.out _ _ (Inv.done (by kernel_rfl) (NoPanic.normal ?_))
        clear hK K
        obtain ⟨E9, hE9⟩ : ∃ zz, zz = T + lq := ⟨_, rfl⟩
        rw [← hE9]
        have MF := Lib.hid ((ME.out.below hw).set (b := pA) (o := 3) (.int .i64 E9) hXA zO.out)
        have KF := Lib.hid (Mis.set6_3 N9.out (.int .i64 E9))
        have e90 : 0 ≤ E9 := by omega
        have e99 : E9 ≤ 1099511632776 := by omega
        replace hE9 := Lib.hid hE9
        clear hd e66 x3 y3 N9 hw ME KE hw0
        obtain ⟨wF, hwF⟩ : ∃ zz, zz = wx.setCell ⟨pA, 3, none⟩ (.int .i64 E9) := ⟨_, rfl⟩
        rw [← hwF] at MF KF ⊢
        clear hwF
        go_upto_region 13 with fail
        have hAg : pA ≠ w.heap.size := by have := MF.out.og; have := MF.out.o8; omega
        have hw0 : Src.Left w wF wF.drew w.heap.size a0 m cap0 z0 := (Src.Left.refl MF.out.di).below ((Below.refl _ _).drew)
        refine wp_region_noPanic ?_
        refine wp_region_any (by kernel_rfl) ?_
        refine Inv.wpAny_inv (fun k => k == 5 || k == 6) [68, 69, 70, 71, 72] (fun w' => Src.Left w wF w' w.heap.size a0 m cap0 z0) (fun _ w1 w2 => Src.Left w w1 w2 w.heap.size a0 m cap0 z0) (fun k => ([fun v_ w_ => v_ = .pointer (some ⟨pA, 3, none⟩), fun v_ w_ => v_ = .int .i64 E9, fun v_ w_ => v_ = .pointer (some ⟨w.heap.size, 0, none⟩), fun v_ w_ => ∃ i_v : Int, v_ = .int .i64 i_v ∧ 0 ≤ i_v ∧ i_v < 5, fun v_ w_ => ∃ i_v : Int, v_ = .int .i64 (E9 + i_v) ∧ 0 ≤ i_v ∧ i_v < 5, fun v_ w_ => True, fun v_ w_ => True] : List (Value → World → Prop)).getD k (fun _ _ => True)) _ (fun σ => by simp only [Inv.putAll, List.foldl_cons, List.foldl_nil, Act.put, List.setIfInBounds_toArray, List.set_cons_zero, List.set_cons_succ]; rfl) (by kernel_rfl) (by kernel_rfl) ?_ hw0 ?_ ?_ 2 #[true, true, true, true, true, false, false] (by kernel_rfl) (by kernel_rfl) ?_
        · intro j k v w1 w2 hjk hv hr
          rcases k with _ | k
          · exact hv
          rcases k with _ | k
          · exact hv
          rcases k with _ | k
          · exact hv
          rcases k with _ | k
          · exact hv
          rcases k with _ | k
          · exact hv
          rcases k with _ | k
          · exact hv
          rcases k with _ | k
          · exact hv
          · exact hv
        · intro k t hl hd
          rcases k with _ | k
          · exact absurd hl (by decide +kernel)
          rcases k with _ | k
          · exact absurd hl (by decide +kernel)
          rcases k with _ | k
          · exact absurd hl (by decide +kernel)
          rcases k with _ | k
          · exact absurd hl (by decide +kernel)
          rcases k with _ | k
          · exact absurd hl (by decide +kernel)
          rcases k with _ | k
          · exact absurd hl (by decide +kernel)
          rcases k with _ | k
          · exact absurd hl (by decide +kernel)
          · simp at hd
        · show Inv.Steps _ _ _ _ _ _ _ _ [0, 1, 2, 3, 4]
          refine Inv.Steps.go (by decide) (by rfl) (fun σ wx hw hd K hK => ?_) ?_
          · simp only [List.getElem_toArray, List.getElem_cons_zero, List.getElem_cons_succ, Act.put, List.setIfInBounds_toArray, List.set_cons_zero, List.set_cons_succ] at hK ⊢
            go_simp
            exact hK.out _ _ hw (Src.Left.refl hw.di) (rfl)
          refine Inv.Steps.go (by decide) (by rfl) (fun σ wx hw hd K hK => ?_) ?_
          · obtain e68 : (σ 68) = .pointer (some ⟨pA, 3, none⟩) := hd 0 (some 68) (by kernel_rfl) (by rfl)
            simp only [List.getElem_toArray, List.getElem_cons_zero, List.getElem_cons_succ, Act.put, List.setIfInBounds_toArray, List.set_cons_zero, List.set_cons_succ, e68] at hK ⊢
            have x3 := cell_of_row wx pA 3 _ _ _ (Mis.blk_past KF.out hw.far hAg)
            go_simp
            exact hK.out _ _ hw (Src.Left.refl hw.di) (rfl)
          refine Inv.Steps.go (by decide) (by rfl) (fun σ wx hw hd K hK => ?_) ?_
          · simp only [List.getElem_toArray, List.getElem_cons_zero, List.getElem_cons_succ, Act.put, List.setIfInBounds_toArray, List.set_cons_zero, List.set_cons_succ] at hK ⊢
            go_simp
            exact hK.out _ _ hw (Src.Left.refl hw.di) (rfl)
          refine Inv.Steps.go (by decide) (by rfl) (fun σ wx hw hd K hK => ?_) ?_
          · obtain e70 : (σ 70) = .pointer (some ⟨w.heap.size, 0, none⟩) := hd 2 (some 70) (by kernel_rfl) (by rfl)
            simp only [List.getElem_toArray, List.getElem_cons_zero, List.getElem_cons_succ, Act.put, List.setIfInBounds_toArray, List.set_cons_zero, List.set_cons_succ, e70] at hK ⊢
            go_simp
            go_at_call 17
            refine (Src.n_any 5 hw.di (by decide) (by decide)).mono ?_
            rintro e w1 ⟨⟨jv, rfl, jv0, jv1⟩, hl⟩
            dsimp only
            exact hK.out _ _ (hw.trans hl) hl (⟨jv, rfl, jv0, jv1⟩)
          refine Inv.Steps.go (by decide) (by rfl) (fun σ wx hw hd K hK => ?_) ?_
          · obtain e69 : (σ 69) = .int .i64 E9 := hd 1 (some 69) (by kernel_rfl) (by rfl)
            obtain ⟨jv, e71, jv0, jv1⟩ : ∃ i_v : Int, (σ 71) = .int .i64 i_v ∧ 0 ≤ i_v ∧ i_v < 5 := hd 3 (some 71) (by kernel_rfl) (by rfl)
            simp only [List.getElem_toArray, List.getElem_cons_zero, List.getElem_cons_succ, Act.put, List.setIfInBounds_toArray, List.set_cons_zero, List.set_cons_succ, e69, e71] at hK ⊢
            have qw : IntKind.i64.wrap (E9 + jv) = E9 + jv := IntWalk.i64_in _ (by omega)
            go_simp
            try rw [qw]
            exact hK.out _ _ hw (Src.Left.refl hw.di) (⟨jv, rfl, jv0, jv1⟩)
          exact Inv.Steps.nil
        · intro σ wx hw hd
          obtain ⟨jv, e72, jv0, jv1⟩ : ∃ i_v : Int, (σ 72) = .int .i64 (E9 + i_v) ∧ 0 ≤ i_v ∧ i_v < 5 := hd 4 (some 72) (by rfl) (by rfl)
          simp only [e72]
          refine Inv.take (i := 5) (v := .pointer (some ⟨pA, 4, none⟩)) (by decide) rfl (by kernel_rfl) (by kernel_rfl) (by kernel_rfl) (fun _ _ _ h => h) (by rfl) (fun w' => ?_) ?_
          · simp only [List.getElem_toArray, List.getElem_cons_zero, List.getElem_cons_succ]
            go_simp
          try simp only [Act.put, List.setIfInBounds_toArray, List.set_cons_zero, List.set_cons_succ]
          have N9 := Lib.hid (Mis.blk_past KF.out hw.far hAg)
          have x3 := cell_of_row wx pA 4 _ _ _ N9.out
          have y3 := frozen_of_row wx pA 4 _ _ N9.out
          refine Inv.one (i := 6) (by decide) (by kernel_rfl) (by rfl) (fun K hK => ?_)
          simp only [List.getElem_toArray, List.getElem_cons_zero, List.getElem_cons_succ, Act.put, List.setIfInBounds_toArray, List.set_cons_zero, List.set_cons_succ] at hK ⊢
          go_simp
          refine hK.out _ _ (Inv.done (by kernel_rfl) (NoPanic.normal ?_))
          clear hK K
          obtain ⟨L9, hL9⟩ : ∃ zz, zz = E9 + jv := ⟨_, rfl⟩
          rw [← hL9]
          have MG := Lib.hid ((MF.out.trans hw).set (b := pA) (o := 4) (.int .i64 L9) hXA zO.out)
          have KG := Lib.hid (Mis.set6_4 N9.out (.int .i64 L9))
          have l90 : E9 ≤ L9 := by omega
          have l99 : L9 ≤ 1099511640000 := by omega
          clear hd e72 x3 y3 N9 hw MF KF hw0 hL9 hAg
          obtain ⟨wG, hwG⟩ : ∃ zz, zz = wx.setCell ⟨pA, 4, none⟩ (.int .i64 L9) := ⟨_, rfl⟩
          rw [← hwG] at MG KG ⊢
          clear hwG
          have zb := MG.out.own.lt
          obtain ⟨x0, x1, x2, x3, x4, x5⟩ : _ := Mis.cell6 KG.out
          obtain ⟨f0, f1, f2, f3, f4, f5, f6', f7, f8, f9, f10⟩ := Mis.c11 MG.out.k7
          have Y6 : Hid (Below wG.heap.size wG (wG.alloc (.cells #[.int .i64 x, .int .i64 y, .int .i64 z, .int .i64 E9, .int .i64 L9, .int .i64 Wt] 37))) := Lib.hid (Mis.new_block _)
          have NB := Lib.hid (World.news_of_block (heap_alloc_new wG (.cells #[.int .i64 x, .int .i64 y, .int .i64 z, .int .i64 E9, .int .i64 L9, .int .i64 Wt] 37)))
          have MB := Lib.hid (MG.out.below Y6.out)
          have OB := Lib.hid MB.out.own
          have one : Hid (∀ u ∈ [Value.int .i64 x, .int .i64 y, .int .i64 z, .int .i64 E9, .int .i64 L9, .int .i64 Wt], u.oneCell' = true) := Lib.hid (by simp; exact ⟨rfl, rfl, rfl, rfl, rfl, rfl⟩)
          have hk6 : kk ≤ 6 := by rw [hkk.out]; omega
          have m1 : Hid (kk + 1 ≤ maxLen) := Lib.hid (by unfold maxLen; omega)
          have m2 : Hid ((kk + 1) * 48 ≤ 140737488355328) := Lib.hid (by omega)
          have zp := (Array.getElem?_eq_some_iff.1 MG.out.k8).1
          have hsz : pX + 1 ≤ (wG.alloc (.cells #[.int .i64 x, .int .i64 y, .int .i64 z, .int .i64 E9, .int .i64 L9, .int .i64 Wt] 37)).heap.size := by simp; omega
          go_wp2_with (at_builtin; (refine wpList_append_own _ rfl (.tmp 75) (.tmp 77) 31 rfl (pX + 1) 37 i0 (.agg #[.int .i64 0, .int .i64 0, .int .i64 0, .int .i64 0, .int .i64 0, .int .i64 0]) 6 48 Try.underlying31 hi0 hz0 hz1 hz2 rfl (by decide) _ kk _ rfl OB.out ⟨wG.heap.size, 0, none⟩ 1 1 _ rfl rfl NB.out one.out m1.out m2.out hsz ?_; intro v' w13 ho hg _; have hg' : (wG.alloc (.cells #[.int .i64 x, .int .i64 y, .int .i64 z, .int .i64 E9, .int .i64 L9, .int .i64 Wt] 37)).grownBy w13 (Value.slice ad kk cc).ownBlock := hg; obtain ⟨ra, rm, rc, rfl, hrm⟩ := Mis.own_letter ho; have M13 := Lib.hid (MB.out.grow hg' (vo' := .slice ra rm rc) (no' := rm) (by have e1 := hrm.out; subst e1; exact ho)); obtain ⟨g0, g1, g2, g3, g4, g5, g6, g7, g8, g9, g10⟩ := Mis.c11 M13.out.k7; obtain ⟨u0, u1, u2', u3, u4, u5, u6, u7, u8, u9, u10⟩ := Mis.f11 M13.out.k7))
          have hrm2 : Hid (rm = nl + 1) := Lib.hid (by rw [hrm.out, hkk.out])
          have M14 := Lib.hid (by have h7 := M13.out.store7 ⟨_, _, _, _, _, _, _, _, _, _, fun _ => rfl⟩ (.slice ra rm rc); rw [← show Mis.cellsP (M ++ [⟨x, y, z, E9, L9, Wt⟩]) = _ from Mis.cellsP_snoc M ⟨x, y, z, E9, L9, Wt⟩] at h7; exact h7)
          have HF2 := Lib.hid (Mis.fit_snoc HF.out (Mis.fit_of (t := T) (E := E9) (L := L9) (Wt := Wt) MG.out.tv (x := x) (y := y) (z := z) (px := px) (py := py) (pz := pz) ⟨h1, h2, h3, h4, h5, h6, by show (0 : Int) ≤ E9; omega, by show E9 ≤ L9; omega, by show L9 ≤ _; omega, by show (1 : Int) ≤ Wt; omega, by show Wt ≤ _; omega⟩ hPS.out.1 hPS.out.2.1 (by rw [hPS.out.2.2]; exact hE9.out) l90))
          clear ho hg hg' Y6 NB MB OB one m1 m2 hsz zp zb x0 x1 x2 x3 x4 x5 f0 f1 f2 f3 f4 f5 f6' f7 f8 f9 f10 g0 g1 g2 g3 g4 g5 g6 g7 g8 g9 g10 u0 u1 u2' u3 u4 u5 u6 u7 u8 u9 u10 M13 MG KG
          go_wp2_with fail
          go_roundw
          case rel => exact ⟨mm - 1, nl + 1, ra, rm, rc, M ++ [⟨x, y, z, E9, L9, Wt⟩], by go_num, by omega, hrm2, Lib.hid (by simp [hMl.out]), HF2, M14⟩
          case measure => simp [intOf]; omega
    · obtain rfl : mm = 0 := by omega
      have kk1 : 1 ≤ kk := by rw [hkk.out]; omega
      have kk9 : kk ≤ 6 := by rw [hkk.out]; omega
      obtain ⟨gq, rfl, hlc, hcm, hgl⟩ : ∃ gq : Nat, ad = some ⟨gq, 0, none⟩ ∧ kk ≤ cc ∧ cc ≤ maxLen ∧ gq < wr.heap.size := by
        rcases Mis.own_shape MM.out.own with ⟨_, e⟩ | ⟨g, c, e, h2, h3, h4, h5⟩
        · omega
        · injection e with e1 e2 e3
          subst e1 e3
          exact ⟨g, rfl, h2, h3, h4⟩
      have hkM : Hid (kk = M.length) := Lib.hid (by rw [hMl.out, hkk.out])
      have PR := (Mis.phR_of_own (B := pX + 1) (show Mis.OwnP wr (pX + 1) (.slice (some ⟨gq, 0, none⟩) kk cc) M by unfold Mis.OwnP; rw [← hkM.out]; exact MM.out.own)).1
      have TV := MM.out.tv
      have K7 := Lib.hid (show wr.heap[pP]? = some (.cells #[.int .i64 a1, .int .i64 a2, .int .i64 a3, .int .i64 d1, .int .i64 d2, .int .i64 d3, .int .i64 s, .slice (some ⟨b1, 0, none⟩) n c1, .slice (some ⟨b2, 0, none⟩) n c2, .slice (some ⟨gq, 0, none⟩) kk cc, .int .i64 cp] 33 (0, 0)) from MM.out.k7)
      have BW := Lib.hid MM.out.di.bel
      have hR := PG.out.rg (by decide)
      obtain ⟨SP, hSP⟩ := spl_of (R := ⟨a1, a2, a3, d1, d2, d3⟩) hR.bv
      have n1 : 1 ≤ M.length := by rw [← hkM.out]; exact kk1
      have n9 : M.length ≤ 64 := by rw [← hkM.out]; omega
      have c9 : cp ≤ 2000 := by have := PG.out.c9; omega
      have c0 := PG.out.c0
      have rv : Sb ⟨a1, a2, a3, d1, d2, d3⟩ ⟨a1, a2, a3, d1, d2, d3⟩ := ⟨Int.le_refl _, Int.le_refl _, Int.le_refl _, Int.le_refl _, Int.le_refl _, Int.le_refl _, hR.bv.x, hR.bv.y, hR.bv.z⟩
      have few := few_of 5 (by decide) rv PG.out.s1 PG.out.s2 PG.out.s3
      have phs := HF.out.s
      have P := pr_of (R := ⟨a1, a2, a3, d1, d2, d3⟩) hR TV phs n1 n9 c0 c9 PR hkM.out hlc c1 c2 hSP few
      have HM := mono_of (R := ⟨a1, a2, a3, d1, d2, d3⟩) hR TV phs n1 c0
      have FA := fin_all P 0 (by decide) HM
      have LO := locate_any P 0 (by decide) (by decide) FA.1 FA.2.1
      have SB : Mis.Sub a1 a2 a3 d1 d2 d3 px py pz px py pz := Mis.Sub.pt p0 p1 p2 p3 p4 p5
      have GZ := Mis.fit_zero hR SB TV HF.out n1 c0
      have F := FA.2.2
      have PT7 := (F.all (px, py, pz) ⟨p0, p1, p2, p3, p4, p5⟩).1
      have g0 := (P.g0 _ F.inR).1
      have at_ := F.at_
      have inR := F.inR
      have lo1 := F.lo1
      have lo2 := F.lo2
      obtain ⟨FN, hFN⟩ : ∃ z, z = fin ⟨Fm s lo hi cp M, Gm s lo hi cp M, SP⟩ ⟨a1, a2, a3, d1, d2, d3⟩ 0 := ⟨_, rfl⟩
      rw [← hFN] at LO PT7 g0 at_ inR lo1 lo2
      obtain ⟨AA, hAA⟩ : ∃ z, z = areaF FN.m (pb (FN.x, FN.y, FN.z)) FN.op := ⟨_, rfl⟩
      obtain ⟨lw, hlw⟩ : ∃ z, z = lowF FN.m FN.op := ⟨_, rfl⟩
      rw [← hAA, ← hlw] at LO
      rw [← hlw] at PT7 lo1 lo2
      have PT8 : lw ≤ (Mis.mf s lo hi cp px py pz px py pz M).2 := PT7
      have at2 : Mis.mf s lo hi cp FN.x FN.y FN.z FN.x FN.y FN.z M = (FN.t, FN.m) := at_
      have g1 : 0 ≤ (Mis.mf s lo hi cp FN.x FN.y FN.z FN.x FN.y FN.z M).2 := g0
      rw [at2] at g1
      have m0 : FN.m = 0 := by
        have g2 : 0 ≤ FN.m := g1
        omega
      have S2 := sub_pt inR
      have S2' : Mis.Sub a1 a2 a3 d1 d2 d3 FN.x FN.y FN.z FN.x FN.y FN.z := S2
      have RZ := Mis.res_zero (px := FN.x) (py := FN.y) (pz := FN.z) (lo := lo) (hi := hi) (s := s) phs c0 n1 (by rw [at2]; exact m0)
      have bd := Mis.best_bd hR S2' TV phs n1 n9 c0 c9
      have bt0 : -1125899906842624 ≤ (Mis.mf s lo hi cp FN.x FN.y FN.z FN.x FN.y FN.z M).1 := bd.2.2.1
      have bt9 : (Mis.mf s lo hi cp FN.x FN.y FN.z FN.x FN.y FN.z M).1 ≤ 1125899906842624 := bd.2.2.2
      rw [at2] at RZ bt0 bt9
      replace bt0 : -1125899906842624 ≤ FN.t := bt0
      replace bt9 : FN.t ≤ 1125899906842624 := bt9
      replace RZ : ∀ k, k < M.length → Mis.res (Mis.zn (M.map (Mis.zfun s lo hi FN.x FN.y FN.z FN.x FN.y FN.z)) k) FN.t = 0 := RZ
      have PK := Mis.pk_of (s := s) (b1 := b1) (b2 := b2) (n := n) (lo := lo) (hi := hi) c1 c2 hR phs n1 n9 c0 c9
      have CS := Mis.cs_of hR S2' TV phs n1 n9 c0 c9
      have HZ := fun (k : Nat) (q : Mis.Ph) (h : M[k]? = some q) (w : World) (hw : Bound.Wide w s b1 b2 n lo hi) => Mis.zone_of (c1 := c1) (c2 := c2) hR S2' hw (phs k q h)
      have RS := fun (w' : World) (h' : Below wr.heap.size wr w') => Mis.residuals_any PK (TV.below h') (PR.below h') hkM.out hlc FN.x FN.y FN.z _ (S2'.bv hR.bv) S2'.wi HZ CS FN.t (by omega) (by omega)
      replace RS := Lib.hid RS
      replace RZ := Lib.hid RZ
      replace LO := Lib.hid LO
      clear PR TV hR hSP n1 n9 c9 c0 rv few phs P HM FA SB GZ F PT7 PT8 g0 at_ at2 g1 inR lo1 lo2 hFN hAA hlw S2 S2' bd PK CS HZ MM HF hMl hkk
      have d0 : ¬ (0 < ((0 : Nat) : Int)) := by decide
      go_upto_region 16 with (first | ((with_reducible refine Mid.ldr 33 (.tmp 4) pP 33 #[.int .i64 a1, .int .i64 a2, .int .i64 a3, .int .i64 d1, .int .i64 d2, .int .i64 d3, .int .i64 s, .slice (some ⟨b1, 0, none⟩) n c1, .slice (some ⟨b2, 0, none⟩) n c2, .slice (some ⟨gq, 0, none⟩) kk cc, .int .i64 cp] K7.out ?_ ?_ ?_ ?_ ?_ ?_); (· rfl); (· rfl); (· first | rfl | simp [Act.eval]); (· exact ⟨_, rfl, rfl⟩); (· kernel_rfl)) | (go_at_call 18; refine LO.out.mono ?_; rintro e wH ⟨rfl, bH⟩; have BH := Lib.hid bH; clear bH) | ((with_reducible refine Mid.str 40 (.tmp 10) (.tmp 83) wH.heap.size 40 #[.int .i64 0, .int .i64 0, .int .i64 0, .int .i64 0, .int .i64 0, .int .i64 0, .int .i64 0, .int .i64 0, .int .i64 0, .int .i64 0, .int .i64 0, .int .i64 0] (lrow FN lw AA).toArray (heap_alloc_new wH _) ?_ ?_ ?_ ?_ ?_ ?_ ?_ ?_); (· rfl); (· rfl); (· first | rfl | simp [Act.eval]); (· first | rfl | simp [Act.eval]); (· kernel_rfl); (· rfl); (· simp [lrow, Value.oneCell'])))
      try simp only [Act.put]
      have NN : Below wH.heap.size wH ((wH.alloc (.cells #[.int .i64 0, .int .i64 0, .int .i64 0, .int .i64 0, .int .i64 0, .int .i64 0, .int .i64 0, .int .i64 0, .int .i64 0, .int .i64 0, .int .i64 0, .int .i64 0] 40)).setRow wH.heap.size (lrow FN lw AA).toArray) := Mid.below_row (Mis.new_block _) _ _ (Nat.le_refl _)
      have KY := Lib.hid (show ((wH.alloc (.cells #[.int .i64 0, .int .i64 0, .int .i64 0, .int .i64 0, .int .i64 0, .int .i64 0, .int .i64 0, .int .i64 0, .int .i64 0, .int .i64 0, .int .i64 0, .int .i64 0] 40)).setRow wH.heap.size (lrow FN lw AA).toArray).heap[wH.heap.size]? = some (.cells (lrow FN lw AA).toArray 40 (0, 0)) from setRow_heap _ _ _ _ _ _ (heap_alloc_new wH _))
      obtain ⟨wI, hwI⟩ : ∃ z, z = (wH.alloc (.cells #[.int .i64 0, .int .i64 0, .int .i64 0, .int .i64 0, .int .i64 0, .int .i64 0, .int .i64 0, .int .i64 0, .int .i64 0, .int .i64 0, .int .i64 0, .int .i64 0] 40)).setRow wH.heap.size (lrow FN lw AA).toArray := ⟨_, rfl⟩
      rw [← hwI] at NN KY ⊢
      obtain ⟨pY, hpY⟩ : ∃ z, z = wH.heap.size := ⟨_, rfl⟩
      rw [← hpY] at KY ⊢
      have BI := Lib.hid (Buf.then_ BH.out NN)
      have K8 := Lib.hid (Mis.hb BI.out K7.out)
      clear hwI hpY NN BH K7 LO
      have RP := Lib.hid (Mid.range KY.out 0 [.int .i64 FN.x, .int .i64 FN.y, .int .i64 FN.z] (by rfl))
      obtain ⟨c3, c4, c5⟩ := loc_cells KY.out
      rw [m0] at c4
      go_upto_region 17 with (first | ((with_reducible refine Mid.ldr 33 (.tmp 4) pP 33 #[.int .i64 a1, .int .i64 a2, .int .i64 a3, .int .i64 d1, .int .i64 d2, .int .i64 d3, .int .i64 s, .slice (some ⟨b1, 0, none⟩) n c1, .slice (some ⟨b2, 0, none⟩) n c2, .slice (some ⟨gq, 0, none⟩) kk cc, .int .i64 cp] K8.out ?_ ?_ ?_ ?_ ?_ ?_); (· rfl); (· rfl); (· first | rfl | simp [Act.eval]); (· exact ⟨_, rfl, rfl⟩); (· kernel_rfl)) | ((with_reducible refine Mid.ldm 26 (.tmp 87) pY 0 [.int .i64 FN.x, .int .i64 FN.y, .int .i64 FN.z] RP.out ?_ ?_ ?_ ?_ ?_ ?_); (· rfl); (· rfl); (· first | rfl | simp [Act.eval]); (· exact ⟨_, rfl, rfl⟩); (· kernel_rfl)) | (go_at_call 30; refine (RS.out _ BI.out).mono ?_; rintro e wJ ⟨⟨bm, cm, rfl, RW, hbm⟩, bJ⟩))
      have RWh := Lib.hid RW
      have BJ := Lib.hid (Buf.then_ BW.out (Buf.then_ BI.out bJ))
      have KYJ := Lib.hid (Mis.hb bJ KY.out)
      have KPJ := Lib.hid (Mis.hb bJ K8.out)
      clear c3 c4 c5 RW bJ RP KY K8 RS hbm
      obtain ⟨c3, c4, c5⟩ := loc_cells KYJ.out
      rw [m0] at c4
      have c9 := cell_of_row wJ pP 9 _ _ _ KPJ.out
      replace c9 : wJ.cell? ⟨pP, 9, none⟩ = some (.slice (some ⟨gq, 0, none⟩) kk cc) := c9
      have e1 : ((kk : Int) != (kk : Int)) = false := by simp
      go_wp2_with fail
      clear c3 c4 c5 c9 e1
      go_loopw [115] (fun u wz => ∃ k : Nat, u = .int .i64 (k : Int) ∧ k ≤ kk ∧ Hid (Mis.Rw wz bm kk kk (fun j => Mis.res (Mis.zn (M.map (Mis.zfun s lo hi FN.x FN.y FN.z FN.x FN.y FN.z)) j) FN.t)) ∧ Hid (Below w.heap.size w wz)) (fun u _ => kk - (intOf u).toNat)
      case atStart => exact ⟨0, rfl, Nat.zero_le _, RWh, BJ⟩
      case round =>
        clear RWh BJ KYJ KPJ
        obtain ⟨k, rfl, hk, RW, BZ⟩ := hrel
        by_cases hkn : k < kk
        · have k1 : (k : Int) < (kk : Int) := by omega
          have ck := RW.out.cell hkn
          have hz := RZ.out k (by rw [← hkM.out]; exact hkn)
          simp only [hz] at ck
          clear hz
          go_wp2_with fail
          go_roundw
          case rel => exact ⟨k + 1, by go_num, by omega, RW, BZ⟩
          case measure => simp [intOf]; omega
        · have k1 : ¬ ((k : Int) < (kk : Int)) := by omega
          go_wp2_with (go_at_call 20; refine (Loc.awake_any _).mono ?_; rintro e w17 ⟨rfl, hc⟩)
          go_ret
          exact ⟨rfl, Buf.then_ BZ.out hc⟩
end Laws
end Go.Proofs.Ytggfmpkgnphleaa
