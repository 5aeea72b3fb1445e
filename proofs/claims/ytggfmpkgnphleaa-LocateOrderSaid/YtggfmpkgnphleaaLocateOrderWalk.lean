/- The walk of LocateOrder. -/
import Derived.Test.YtggfmpkgnphleaaMisR
import Derived.Test.YtggfmpkgnphleaaLocS
import Derived.Test.YtggfmpkgnphleaaLocGQ
import Derived.Test.YtggfmpkgnphleaaMisP
import Derived.Laws.StructEq
import Derived.Test.YtggfmpkgnphleaaKeep
import Derived.ArgAppend
import Derived.Test.YtggfmpkgnphleaaInvC
set_option linter.unusedVariables false
set_option linter.unusedSimpArgs false
namespace Go.Proofs.Ytggfmpkgnphleaa
open Go.RowKit
namespace Loc
open Mis
theorem di_kept {W w w' : World} {g q : Nat} {a : Option Addr} {len cap : Nat} {zs : List Int} (h : Src.Di W w g a len cap zs) (f : w.grownBy w' (some q)) (hq : W.heap.size ≤ q) (hg : q ≠ g) : Src.Di W w' g a len cap zs := by
  obtain ⟨p, hp, hk⟩ := h.blk
  refine ⟨h.base, Nat.lt_of_lt_of_le h.lt f.size, ?_, h.row, h.small, p, hp, ?_⟩
  · exact h.bel.grown f h.bel.size fun k hk => by cases hk; exact hq
  · rw [f.block g h.lt (fun e => hg (by cases e; rfl))]; exact hk
theorem wide_far {w w' : World} {s : Int} {b1 b2 n q : Nat} {lo hi : List Int} (h : Bound.Wide w s b1 b2 n lo hi) (f : w.grownBy w' (some q)) (h1 : b1 ≠ q) (h2 : b2 ≠ q) : Bound.Wide w' s b1 b2 n lo hi :=
  ⟨Mis.tv_kept h.tv (f.block b1 h.tv.e1 (fun e => h1 (by cases e; rfl))) (f.block b2 h.tv.e2 (fun e => h2 (by cases e; rfl))) f.size, h.re⟩
theorem blk_far {w w' : World} {b q : Nat} {o : Obj} (h : w.heap[b]? = some o) (f : w.grownBy w' (some q)) (h1 : b ≠ q) : w'.heap[b]? = some o :=
  (f.block b (Array.getElem?_eq_some_iff.1 h).1 (fun e => h1 (by cases e; rfl))).trans h
set_option maxHeartbeats 4000000 in
theorem loc_eq (FN : St) (lo : Int) (A : Bx) (w : World) : Sem.run Try.prog (binOp .eql 40 (.agg (lrow FN lo A).toArray) (.agg (lrow FN lo A).toArray)) w = .ok (.bool true) w := by
  unfold lrow
  generalize FN.x = a1
  generalize FN.y = a2
  generalize FN.z = a3
  generalize FN.t = a4
  generalize FN.m = a5
  generalize A.a = b1
  generalize A.b = b2
  generalize A.c = b3
  generalize A.d = b4
  generalize A.e = b5
  generalize A.f = b6
  go_simp
theorem fin_all {A : World} {Ak : Ask} {R : Bx} {q : Pq} (P : Pr A Ak R q) (tol : Int) (t0 : 0 ≤ tol) (hm : ∀ B p, Sb R B → inB B p → Ak.F B ≤ (Ak.G p).2) :
    (fin Ak R tol).fd = true ∧ Inv Ak R (fin Ak R tol) ∧ Fin Ak R tol (fin Ak R tol) := by
  have i := start_inv P.good
  have hw : wgt (add Ak start R).op ≤ ((3000 : Nat) : Int) := by have := i.pot; have := i.tk0; have := P.few; omega
  obtain ⟨j, he⟩ := run_inv P.good tol 3000 _ i hw
  have hf : (fin Ak R tol).fd = true := run_first P.good tol 2999
  exact ⟨hf, j, fin_of j hm he hf t0⟩
end Loc
namespace Laws
open _root_.Go.Proofs.Ytggfmpkgnphleaa.Loc
set_option maxHeartbeats 16000000 in
set_option maxRecDepth 100000 in
theorem locateOrder_walk (a0 : Option Addr) (len0 cap0 : Nat) (z0 : List Int) (o1 : Option Addr) (len1 cap1 : Nat) (z1 : List Int) (w : World) (w0 : Buf.IsRow .i64 w a0 len0 cap0 z0) (w1 : Buf.IsRow .i64 w o1 len1 cap1 z1) :
    Calls Try.prog 3 #[.slice a0 len0 cap0, .slice o1 len1 cap1] w fun e w' => e = .returned (.bool true) ∧ Below w.heap.size w w' := by
  have OR := Lib.hid w1
  clear w1
  obtain ⟨i0, hi0, hz0, hz1, hz2⟩ : ∃ i, Try.prog.info? 37 = some i ∧ i.zero = some (.agg #[.int .i64 0, .int .i64 0, .int .i64 0, .int .i64 0, .int .i64 0, .int .i64 0]) ∧ i.size = 6 ∧ i.bytes = 48 := ⟨_, rfl, by kernel_rfl, by kernel_rfl, by kernel_rfl⟩
  go_enter Try.func3, Try.ntmps3
  go_wp2_with fail
  refine (Src.new_any a0 len0 cap0 z0 w w0).mono ?_
  rintro e0 wA ⟨rfl, m, hd⟩
  have L0 := Lib.hid (Src.Left.refl hd)
  have sA : w.heap.size < wA.heap.size := hd.lt
  clear hd w0
  go_wp2_with fail
  refine (Mis.problem_any 5 6 (by decide) (by decide) (by decide) (by decide) L0.out.di).mono ?_
  rintro e0 w2 ⟨⟨a1, a2, a3, d1, d2, d3, s, b1, b2, n, c1, c2, lo, hi, gp0, cpp, L, cp, nl, rfl, hnl, P⟩, hl⟩
  have s2 : wA.heap.size ≤ w2.heap.size := hl.far.size
  replace L0 := Lib.hid (L0.out.trans hl)
  have PG := Lib.hid P
  replace hnl := Lib.hid hnl
  clear hl P
  go_upto_region 3 with ((with_reducible refine Mid.str 33 (.tmp 6) (.tmp 22) w2.heap.size 33 #[.int .i64 0, .int .i64 0, .int .i64 0, .int .i64 0, .int .i64 0, .int .i64 0, .int .i64 0, .slice none 0 0, .slice none 0 0, .slice none 0 0, .int .i64 0] #[.int .i64 a1, .int .i64 a2, .int .i64 a3, .int .i64 d1, .int .i64 d2, .int .i64 d3, .int .i64 s, .slice (some ⟨b1, 0, none⟩) n c1, .slice (some ⟨b2, 0, none⟩) n c2, .slice (some ⟨gp0, 0, none⟩) nl cpp, .int .i64 cp] (heap_alloc_new w2 _) ?_ ?_ ?_ ?_ ?_ ?_ ?_ ?_); (· rfl); (· rfl); (· first | rfl | simp [Act.eval]); (· first | rfl | simp [Act.eval]); (· kernel_rfl); (· rfl); (· simp [Value.oneCell']))
  try simp only [Act.put]
  have N3 : Below w2.heap.size w2 ((w2.alloc (.cells #[.int .i64 0, .int .i64 0, .int .i64 0, .int .i64 0, .int .i64 0, .int .i64 0, .int .i64 0, .slice none 0 0, .slice none 0 0, .slice none 0 0, .int .i64 0] 33)).setRow w2.heap.size #[.int .i64 a1, .int .i64 a2, .int .i64 a3, .int .i64 d1, .int .i64 d2, .int .i64 d3, .int .i64 s, .slice (some ⟨b1, 0, none⟩) n c1, .slice (some ⟨b2, 0, none⟩) n c2, .slice (some ⟨gp0, 0, none⟩) nl cpp, .int .i64 cp]) := Mid.below_row (Mis.new_block _) _ _ (Nat.le_refl _)
  have K3 := Lib.hid (show ((w2.alloc (.cells #[.int .i64 0, .int .i64 0, .int .i64 0, .int .i64 0, .int .i64 0, .int .i64 0, .int .i64 0, .slice none 0 0, .slice none 0 0, .slice none 0 0, .int .i64 0] 33)).setRow w2.heap.size #[.int .i64 a1, .int .i64 a2, .int .i64 a3, .int .i64 d1, .int .i64 d2, .int .i64 d3, .int .i64 s, .slice (some ⟨b1, 0, none⟩) n c1, .slice (some ⟨b2, 0, none⟩) n c2, .slice (some ⟨gp0, 0, none⟩) nl cpp, .int .i64 cp]).heap[w2.heap.size]? = some (.cells #[.int .i64 a1, .int .i64 a2, .int .i64 a3, .int .i64 d1, .int .i64 d2, .int .i64 d3, .int .i64 s, .slice (some ⟨b1, 0, none⟩) n c1, .slice (some ⟨b2, 0, none⟩) n c2, .slice (some ⟨gp0, 0, none⟩) nl cpp, .int .i64 cp] 33 (0, 0)) from setRow_heap _ _ _ _ _ _ (heap_alloc_new w2 _))
  obtain ⟨w3, hw3⟩ : ∃ z, z = (w2.alloc (.cells #[.int .i64 0, .int .i64 0, .int .i64 0, .int .i64 0, .int .i64 0, .int .i64 0, .int .i64 0, .slice none 0 0, .slice none 0 0, .slice none 0 0, .int .i64 0] 33)).setRow w2.heap.size #[.int .i64 a1, .int .i64 a2, .int .i64 a3, .int .i64 d1, .int .i64 d2, .int .i64 d3, .int .i64 s, .slice (some ⟨b1, 0, none⟩) n c1, .slice (some ⟨b2, 0, none⟩) n c2, .slice (some ⟨gp0, 0, none⟩) nl cpp, .int .i64 cp] := ⟨_, rfl⟩
  rw [← hw3] at N3 K3 ⊢
  have s3 : w2.heap.size + 1 = w3.heap.size := by rw [hw3]; simp [World.setRow]
  obtain ⟨p6, hp6⟩ : ∃ z, z = w2.heap.size := ⟨_, rfl⟩
  have h6a : w2.heap.size ≤ p6 := by omega
  have h6b : p6 < w3.heap.size := by omega
  rw [← hp6] at K3 ⊢
  have W3 := Lib.hid (PG.out.tv.below N3)
  have R3 := Lib.hid (PG.out.pr.below N3)
  have L3 := Lib.hid (L0.out.below N3)
  clear hw3 hp6 N3 L0 s3
  go_upto_region 4 with (first | ((with_reducible refine Mid.ldr 33 (.tmp 6) p6 33 #[.int .i64 a1, .int .i64 a2, .int .i64 a3, .int .i64 d1, .int .i64 d2, .int .i64 d3, .int .i64 s, .slice (some ⟨b1, 0, none⟩) n c1, .slice (some ⟨b2, 0, none⟩) n c2, .slice (some ⟨gp0, 0, none⟩) nl cpp, .int .i64 cp] K3.out ?_ ?_ ?_ ?_ ?_ ?_); (· rfl); (· rfl); (· first | rfl | simp [Act.eval]); (· exact ⟨_, rfl, rfl⟩); (· kernel_rfl)) | ((with_reducible refine Mid.str 33 (.tmp 7) (.tmp 23) w3.heap.size 33 #[.int .i64 0, .int .i64 0, .int .i64 0, .int .i64 0, .int .i64 0, .int .i64 0, .int .i64 0, .slice none 0 0, .slice none 0 0, .slice none 0 0, .int .i64 0] #[.int .i64 a1, .int .i64 a2, .int .i64 a3, .int .i64 d1, .int .i64 d2, .int .i64 d3, .int .i64 s, .slice (some ⟨b1, 0, none⟩) n c1, .slice (some ⟨b2, 0, none⟩) n c2, .slice (some ⟨gp0, 0, none⟩) nl cpp, .int .i64 cp] (heap_alloc_new w3 _) ?_ ?_ ?_ ?_ ?_ ?_ ?_ ?_); (· rfl); (· rfl); (· first | rfl | simp [Act.eval]); (· first | rfl | simp [Act.eval]); (· kernel_rfl); (· rfl); (· simp [Value.oneCell'])))
  try simp only [Act.put]
  have N4 : Below w3.heap.size w3 ((w3.alloc (.cells #[.int .i64 0, .int .i64 0, .int .i64 0, .int .i64 0, .int .i64 0, .int .i64 0, .int .i64 0, .slice none 0 0, .slice none 0 0, .slice none 0 0, .int .i64 0] 33)).setRow w3.heap.size #[.int .i64 a1, .int .i64 a2, .int .i64 a3, .int .i64 d1, .int .i64 d2, .int .i64 d3, .int .i64 s, .slice (some ⟨b1, 0, none⟩) n c1, .slice (some ⟨b2, 0, none⟩) n c2, .slice (some ⟨gp0, 0, none⟩) nl cpp, .int .i64 cp]) := Mid.below_row (Mis.new_block _) _ _ (Nat.le_refl _)
  have K4 := Lib.hid (show ((w3.alloc (.cells #[.int .i64 0, .int .i64 0, .int .i64 0, .int .i64 0, .int .i64 0, .int .i64 0, .int .i64 0, .slice none 0 0, .slice none 0 0, .slice none 0 0, .int .i64 0] 33)).setRow w3.heap.size #[.int .i64 a1, .int .i64 a2, .int .i64 a3, .int .i64 d1, .int .i64 d2, .int .i64 d3, .int .i64 s, .slice (some ⟨b1, 0, none⟩) n c1, .slice (some ⟨b2, 0, none⟩) n c2, .slice (some ⟨gp0, 0, none⟩) nl cpp, .int .i64 cp]).heap[w3.heap.size]? = some (.cells #[.int .i64 a1, .int .i64 a2, .int .i64 a3, .int .i64 d1, .int .i64 d2, .int .i64 d3, .int .i64 s, .slice (some ⟨b1, 0, none⟩) n c1, .slice (some ⟨b2, 0, none⟩) n c2, .slice (some ⟨gp0, 0, none⟩) nl cpp, .int .i64 cp] 33 (0, 0)) from setRow_heap _ _ _ _ _ _ (heap_alloc_new w3 _))
  replace K3 := Lib.hid (Mis.hb N4 K3.out)
  obtain ⟨w4, hw4⟩ : ∃ z, z = (w3.alloc (.cells #[.int .i64 0, .int .i64 0, .int .i64 0, .int .i64 0, .int .i64 0, .int .i64 0, .int .i64 0, .slice none 0 0, .slice none 0 0, .slice none 0 0, .int .i64 0] 33)).setRow w3.heap.size #[.int .i64 a1, .int .i64 a2, .int .i64 a3, .int .i64 d1, .int .i64 d2, .int .i64 d3, .int .i64 s, .slice (some ⟨b1, 0, none⟩) n c1, .slice (some ⟨b2, 0, none⟩) n c2, .slice (some ⟨gp0, 0, none⟩) nl cpp, .int .i64 cp] := ⟨_, rfl⟩
  rw [← hw4] at N4 K3 K4 ⊢
  have s4 : w3.heap.size + 1 = w4.heap.size := by rw [hw4]; simp [World.setRow]
  obtain ⟨p7, hp7⟩ : ∃ z, z = w3.heap.size := ⟨_, rfl⟩
  have h7a : w3.heap.size ≤ p7 := by omega
  have h7b : p7 < w4.heap.size := by omega
  have h67 : p6 ≠ p7 := by omega
  rw [← hp7] at K4 ⊢
  replace W3 := Lib.hid (W3.out.below N4)
  replace R3 := Lib.hid (R3.out.below N4)
  replace L3 := Lib.hid (L3.out.below N4)
  clear hw4 hp7 N4 s4
  have Y0 := Lib.hid (Mis.new_block (w := w4) (.cells #[] 37))
  obtain ⟨w5, hw5⟩ : ∃ z, z = w4.alloc (.cells #[] 37) := ⟨_, rfl⟩
  rw [← hw5] at Y0
  have K5 := Lib.hid (Mis.hb Y0.out K3.out)
  have K5q := Lib.hid (Mis.hb Y0.out K4.out)
  have R5 := Lib.hid (R3.out.below Y0.out)
  have W5 := Lib.hid (W3.out.below Y0.out)
  have D5 := Lib.hid (L3.out.di.below Y0.out)
  have s5 : w4.heap.size ≤ w5.heap.size := Y0.out.size
  have c9 := cell_of_row w5 p6 9 _ _ _ K5.out
  rw [hw5] at c9
  clear K3 K4 R3 W3 L3 Y0
  have n1 := PG.out.n1
  have n9 := PG.out.n9
  have nle := PG.out.le
  have hle : nl ≤ cpp := by rw [hnl.out]; exact nle
  have hn1 : 1 ≤ nl := by rw [hnl.out]; exact n1
  have hn9 : nl ≤ 6 := by rw [hnl.out]; exact n9
  clear n1 n9 nle
  go_upto_region 5 with (at_builtin; refine wpList_append_grows _ rfl _ _ 31 rfl 37 i0 (.agg #[.int .i64 0, .int .i64 0, .int .i64 0, .int .i64 0, .int .i64 0, .int .i64 0]) 6 48 Try.underlying31 hi0 hz0 hz1 hz2 rfl (by decide) _ 0 0 [] rfl (fun _ => ⟨rfl, rfl⟩) rfl (fun _ _ j u hu => by simp at hu) ⟨gp0, 0, none⟩ nl cpp (Mis.cellsP L) rfl (by rw [Mis.cellsP_length, hnl.out]) (by rw [← hw5]; exact Mis.phR_cells R5.out) (Mis.cellsP_one L) (by omega) (by unfold maxLen; omega) (by omega) ?_; rw [← hw5]; intro v6 w6 O6 G6; obtain ⟨gq, cq, rfl, O6', q1, q2, q3, q4⟩ := own_form6 O6 hnl.out (by omega); have Y6 := Lib.hid (below_none G6); have K6q := Lib.hid (Mis.hb Y6.out K5q.out); have f9 := frozen_of_row w6 p7 9 _ _ K6q.out; have c9q := cell_of_row w6 p7 9 _ _ _ K6q.out; clear O6 G6)
  have K6 := Lib.hid (Mis.hb Y6.out K5.out)
  have R6 := Lib.hid (R5.out.below Y6.out)
  have W6 := Lib.hid (W5.out.below Y6.out)
  have D6 := Lib.hid (D5.out.below Y6.out)
  have s6 := Y6.out.size
  have F7 := Lib.hid (set_far w6 p7 9 (.slice (some ⟨gq, 0, none⟩) nl cq))
  have K7q := Lib.hid ((heap_setCell_same w6 p7 9 _ _ (.slice (some ⟨gq, 0, none⟩) nl cq) K6q.out).trans (show _ = some (Obj.cells #[.int .i64 a1, .int .i64 a2, .int .i64 a3, .int .i64 d1, .int .i64 d2, .int .i64 d3, .int .i64 s, .slice (some ⟨b1, 0, none⟩) n c1, .slice (some ⟨b2, 0, none⟩) n c2, .slice (some ⟨gq, 0, none⟩) nl cq, .int .i64 cp] 33 (0, 0)) from rfl))
  obtain ⟨w7, hw7⟩ : ∃ z, z = w6.setCell ⟨p7, 9, none⟩ (.slice (some ⟨gq, 0, none⟩) nl cq) := ⟨_, rfl⟩
  rw [← hw7] at F7 K7q ⊢
  have gg : w.heap.size < w2.heap.size := by omega
  have m1 := PG.out.m1
  have m2 := PG.out.m2
  have m3 := PG.out.gB
  have e1 := W6.out.tv.e1
  have e2 := W6.out.tv.e2
  have x1 : b1 < w2.heap.size := PG.out.tv.tv.e1
  have x2 : b2 < w2.heap.size := PG.out.tv.tv.e2
  have x3 : gp0 < w2.heap.size := PG.out.pr.1
  have D7 := Lib.hid (di_kept D6.out F7.out (by omega) (by omega))
  have W7 := Lib.hid (wide_far W6.out F7.out (by omega) (by omega))
  have R7 := Lib.hid (R6.out.kept (F7.out.block gp0 R6.out.1 (fun e => by cases e; omega)) F7.out.size)
  have K7 := Lib.hid (blk_far K6.out F7.out h67)
  have O7 : Hid (Mis.OwnP w7 w5.heap.size (.slice (some ⟨gq, 0, none⟩) nl cq) L) := Lib.hid (Mis.own_kept O6' fun k hk => by cases hk; exact F7.out.block gq q4 (fun e => by cases e; omega))
  have h7q : p7 < gq := by omega
  have h7g : gq < w7.heap.size := Nat.lt_of_lt_of_le q4 F7.out.size
  clear K6 K6q K5 K5q R5 R6 W5 W6 D5 D6 F7 hw7 hw5 O6' Y6 f9 c9q c9 q4 q3 s6 s5 h7b e1 e2 m1 m2 m3
  have c9 := cell_of_row w7 p7 9 _ _ _ K7q.out
  go_wp2_with fail
  clear c9
  go_loopw [32] (fun u wr => ∃ (k : Nat) (M : List Mis.Ph), u = .int .i64 (k : Int) ∧ k ≤ nl ∧ Hid (Sw w7 gq w5.heap.size nl cq wr L M)) (fun u _ => nl - (intOf u).toNat)
  case atStart => exact ⟨0, L, rfl, Nat.zero_le _, Lib.hid ⟨grown_low (Below.refl _ _), O7.out, List.Perm.refl _⟩⟩
  case round =>
    obtain ⟨ki, M, rfl, hk, SWh⟩ := hrel
    have hMl := Lib.hid (SWh.out.perm.length_eq.trans hnl.out.symm)
    have FW := Lib.hid SWh.out.far
    have KP := Lib.hid (blk_far K7.out FW.out (by omega))
    have KQ := Lib.hid (blk_far K7q.out FW.out (by omega))
    have DW := Lib.hid (di_kept D7.out FW.out (by omega) (by omega))
    by_cases hkn : ki < nl
    · have k1 : (ki : Int) < (nl : Int) := by omega
      by_cases hko : ki < len1
      · have k2 : (ki : Int) < (len1 : Int) := by omega
        obtain ⟨x, rfl, hlc, hcm, hzl, hcell, hwf⟩ : ∃ x, o1 = some x ∧ len1 ≤ cap1 ∧ cap1 ≤ maxLen ∧ z1.length = cap1 ∧ (∀ i, i < z1.length → w.cell? (x.add i) = some (.int .i64 (z1.getD i 0))) ∧ ∀ n ∈ z1, (Lit.int .i64 n).wf = true := by
          rcases OR.out with ⟨_, e, _⟩ | h
          · omega
          · exact h
        obtain ⟨ob, oo, rfl, hc⟩ := ints_at hcell (by omega)
        have hoc := hc ki (by omega)
        have hlt := World.block_lt_of_cell? w _ hoc
        have co : wr.cell? ⟨ob, oo + ki, none⟩ = some (.int .i64 (z1.getD ki 0)) := by rw [DW.out.bel.cell (p := ⟨ob, oo + ki, none⟩) hlt]; exact hoc
        obtain ⟨z, hz⟩ : ∃ z, z = z1.getD ki 0 := ⟨_, rfl⟩
        rw [← hz] at co
        have c9 := cell_of_row wr p7 9 _ _ _ KQ.out
        replace c9 : wr.cell? ⟨p7, 9, none⟩ = some (.slice (some ⟨gq, 0, none⟩) nl cq) := c9
        have MO := Lib.hid fun w' => Keep.mod_any z (nl : Int) w' (by omega) (by omega)
        have hlcx : (len1 : Int) ≤ (cap1 : Int) := by omega
        clear hcell hwf hzl hc hoc hz hlt hcm
        go_upto_region 9 with fail
        go_quiet ((go_at_call 16; exact Calls.quiet_of_same (MO.out _)))
        obtain ⟨w9, hw9⟩ : ∃ z, z = wr.drewN nq := ⟨_, rfl⟩
        have S9 := Lib.hid (SWh.out.below (show Below wr.heap.size wr w9 by rw [hw9]; exact Buf.below_drewN (Below.refl _ _) _))
        rw [← hw9]
        obtain ⟨q, hq⟩ : ∃ q : Nat, (q : Int) = z % (nl : Int) := ⟨(z % (nl : Int)).toNat, by have := Int.emod_nonneg z (show (nl : Int) ≠ 0 by omega); omega⟩
        have hqn : q < nl := by have := Int.emod_lt_of_pos z (show 0 < (nl : Int) by omega); omega
        have q1 : (q : Int) < (nl : Int) := by omega
        rw [← hq]
        have K9 := Lib.hid (blk_far K7q.out S9.out.far (by omega))
        clear hw9 hq co MO c9 SWh FW KP KQ DW
        go_upto_region 10 with fail
        have CQ : Hid (∀ w', Below w9.heap.size w9 w' → w'.cell? ⟨p7, 9, none⟩ = some (.slice (some ⟨gq, 0, none⟩) nl cq)) := Lib.hid fun w' h' => cell_of_row w' p7 9 _ _ _ (Mis.hb h' K9.out)
        have RK : Hid (∀ w', Below w9.heap.size w9 w' → w'.rangeAt gq (ki * 6) (row6 (gp M ki))) := Lib.hid fun w' h' => range6 (S9.out.below h').own (by rw [hMl.out]; exact hkn)
        have RQ : Hid (∀ w', Below w9.heap.size w9 w' → w'.rangeAt gq (q * 6) (row6 (gp M q))) := Lib.hid fun w' h' => range6 (S9.out.below h').own (by rw [hMl.out]; exact hqn)
        have TK : Hid (∀ w', Below w9.heap.size w9 w' → w'.there gq (ki * 6) 6) := Lib.hid fun w' h' => there6 (S9.out.below h').own (by rw [hMl.out]; exact hkn)
        have TQ : Hid (∀ w', Below w9.heap.size w9 w' → (w'.setCells gq (ki * 6) (row6 (gp M q))).there gq (q * 6) 6) := Lib.hid fun w' h' => there_set6 (there6 (S9.out.below h').own (by rw [hMl.out]; exact hqn)) _ _
        have CK : Hid (∀ w', Below w9.heap.size w9 w' → (w'.setCells gq (ki * 6) (row6 (gp M q))).cell? ⟨p7, 9, none⟩ = some (.slice (some ⟨gq, 0, none⟩) nl cq)) := Lib.hid fun w' h' => cell_set6 _ _ (by omega) (CQ.out w' h')
        have hw0 : Below w9.heap.size w9 w9.drew := (Below.refl _ _).drew
        refine wp_region_noPanic ?_
        refine wp_region_any (by kernel_rfl) ?_
        refine Inv.wpAny_inv3 (fun k => k == 16 || k == 17 || k == 18 || k == 19) 3 4 5 [47, 48, 49, 50, 51, 52, 53, 54, 55, 56, 57, 58, 59, 60, 61, 62] (fun w' => Below w9.heap.size w9 w') (fun _ w1 w2 => Below w1.heap.size w1 w2) (fun k => ([fun v_ w_ => v_ = .pointer (some ⟨p7, 9, none⟩), fun v_ w_ => v_ = .slice (some ⟨gq, 0, none⟩) nl cq, fun v_ w_ => v_ = .int .i64 (ki : Int), fun v_ w_ => v_ = .pointer (some ⟨p7, 9, none⟩), fun v_ w_ => v_ = .slice (some ⟨gq, 0, none⟩) nl cq, fun v_ w_ => v_ = .int .i64 (q : Int), fun v_ w_ => v_ = .pointer (some ⟨p7, 9, none⟩), fun v_ w_ => v_ = .slice (some ⟨gq, 0, none⟩) nl cq, fun v_ w_ => v_ = .int .i64 (q : Int), fun v_ w_ => v_ = .pointer (some ⟨gq, q * 6, none⟩), fun v_ w_ => v_ = .agg (row6 (gp M q)).toArray, fun v_ w_ => v_ = .pointer (some ⟨p7, 9, none⟩), fun v_ w_ => v_ = .slice (some ⟨gq, 0, none⟩) nl cq, fun v_ w_ => v_ = .int .i64 (ki : Int), fun v_ w_ => v_ = .pointer (some ⟨gq, ki * 6, none⟩), fun v_ w_ => v_ = .agg (row6 (gp M ki)).toArray, fun v_ w_ => True, fun v_ w_ => True, fun v_ w_ => True, fun v_ w_ => True] : List (Value → World → Prop)).getD k (fun _ _ => True)) _ (fun σ => by simp only [Inv.putAll, List.foldl_cons, List.foldl_nil, Act.put, List.setIfInBounds_toArray, List.set_cons_zero, List.set_cons_succ]; rfl) (by kernel_rfl) (by kernel_rfl) (by decide) ?_ hw0 ?_ ?_ (fun b1 b2 b3 => 4 + (cond b1 0 1) + (cond b2 0 1) + (cond b3 0 1)) (fun b1 b2 b3 => #[true, true, true, b1, b2, b3, true, true, true, true, true, true, true, true, true, true, false, false, false, false]) (by intro b1 b2 b3; cases b1 <;> cases b2 <;> cases b3 <;> kernel_rfl) (by intro b1 b2 b3; cases b1 <;> cases b2 <;> cases b3 <;> kernel_rfl) (by exact ⟨rfl, rfl, rfl⟩) ?_
        · intro j k v w1 w2 hjk hv hr
          rcases k with _ | k
          · exact hv
          rcases k with _ | k
          · exact hv
          rcases k with _ | k
          · exact hv
          rcases k with _ | k
          · exact hv
          rcases k with _ | k
          · exact hv
          rcases k with _ | k
          · exact hv
          rcases k with _ | k
          · exact hv
          rcases k with _ | k
          · exact hv
          rcases k with _ | k
          · exact hv
          rcases k with _ | k
          · exact hv
          rcases k with _ | k
          · exact hv
          rcases k with _ | k
          · exact hv
          rcases k with _ | k
          · exact hv
          rcases k with _ | k
          · exact hv
          rcases k with _ | k
          · exact hv
          rcases k with _ | k
          · exact hv
          rcases k with _ | k
          · exact hv
          rcases k with _ | k
          · exact hv
          rcases k with _ | k
          · exact hv
          rcases k with _ | k
          · exact hv
          · exact hv
        · intro k t hl hd
          rcases k with _ | k
          · exact absurd hl (by decide +kernel)
          rcases k with _ | k
          · exact absurd hl (by decide +kernel)
          rcases k with _ | k
          · exact absurd hl (by decide +kernel)
          rcases k with _ | k
          · exact absurd hl (by decide +kernel)
          rcases k with _ | k
          · exact absurd hl (by decide +kernel)
          rcases k with _ | k
          · exact absurd hl (by decide +kernel)
          rcases k with _ | k
          · exact absurd hl (by decide +kernel)
          rcases k with _ | k
          · exact absurd hl (by decide +kernel)
          rcases k with _ | k
          · exact absurd hl (by decide +kernel)
          rcases k with _ | k
          · exact absurd hl (by decide +kernel)
          rcases k with _ | k
          · exact absurd hl (by decide +kernel)
          rcases k with _ | k
          · exact absurd hl (by decide +kernel)
          rcases k with _ | k
          · exact absurd hl (by decide +kernel)
          rcases k with _ | k
          · exact absurd hl (by decide +kernel)
          rcases k with _ | k
          · exact absurd hl (by decide +kernel)
          rcases k with _ | k
          · exact absurd hl (by decide +kernel)
          rcases k with _ | k
          · exact absurd hl (by decide +kernel)
          rcases k with _ | k
          · exact absurd hl (by decide +kernel)
          rcases k with _ | k
          · exact absurd hl (by decide +kernel)
          rcases k with _ | k
          · exact absurd hl (by decide +kernel)
          · simp at hd
        · show Inv.Steps _ _ _ _ _ _ _ _ [0, 1, 2, 3, 4, 5, 6, 7, 8, 9, 10, 11, 12, 13, 14, 15]
          refine Inv.Steps.go (by decide) (by rfl) (fun σ wx hw hd K hK => ?_) ?_
          · simp only [List.getElem_toArray, List.getElem_cons_zero, List.getElem_cons_succ, Act.put, List.setIfInBounds_toArray, List.set_cons_zero, List.set_cons_succ] at hK ⊢
            go_simp
            exact hK.out _ _ hw (Below.refl _ _) (rfl)
          refine Inv.Steps.go (by decide) (by rfl) (fun σ wx hw hd K hK => ?_) ?_
          · obtain e47 : (σ 47) = .pointer (some ⟨p7, 9, none⟩) := hd 0 (some 47) (by kernel_rfl) (by rfl)
            simp only [List.getElem_toArray, List.getElem_cons_zero, List.getElem_cons_succ, Act.put, List.setIfInBounds_toArray, List.set_cons_zero, List.set_cons_succ, e47] at hK ⊢
            have hc9 := CQ.out _ hw
            go_simp
            exact hK.out _ _ hw (Below.refl _ _) (rfl)
          refine Inv.Steps.go (by decide) (by rfl) (fun σ wx hw hd K hK => ?_) ?_
          · simp only [List.getElem_toArray, List.getElem_cons_zero, List.getElem_cons_succ, Act.put, List.setIfInBounds_toArray, List.set_cons_zero, List.set_cons_succ] at hK ⊢
            go_simp
            exact hK.out _ _ hw (Below.refl _ _) (rfl)
          refine Inv.Steps.go (by decide) (by rfl) (fun σ wx hw hd K hK => ?_) ?_
          · simp only [List.getElem_toArray, List.getElem_cons_zero, List.getElem_cons_succ, Act.put, List.setIfInBounds_toArray, List.set_cons_zero, List.set_cons_succ] at hK ⊢
            go_simp
            exact hK.out _ _ hw (Below.refl _ _) (rfl)
          refine Inv.Steps.go (by decide) (by rfl) (fun σ wx hw hd K hK => ?_) ?_
          · obtain e50 : (σ 50) = .pointer (some ⟨p7, 9, none⟩) := hd 3 (some 50) (by kernel_rfl) (by rfl)
            simp only [List.getElem_toArray, List.getElem_cons_zero, List.getElem_cons_succ, Act.put, List.setIfInBounds_toArray, List.set_cons_zero, List.set_cons_succ, e50] at hK ⊢
            have hc9 := CQ.out _ hw
            go_simp
            exact hK.out _ _ hw (Below.refl _ _) (rfl)
          refine Inv.Steps.go (by decide) (by rfl) (fun σ wx hw hd K hK => ?_) ?_
          · simp only [List.getElem_toArray, List.getElem_cons_zero, List.getElem_cons_succ, Act.put, List.setIfInBounds_toArray, List.set_cons_zero, List.set_cons_succ] at hK ⊢
            go_simp
            exact hK.out _ _ hw (Below.refl _ _) (rfl)
          refine Inv.Steps.go (by decide) (by rfl) (fun σ wx hw hd K hK => ?_) ?_
          · simp only [List.getElem_toArray, List.getElem_cons_zero, List.getElem_cons_succ, Act.put, List.setIfInBounds_toArray, List.set_cons_zero, List.set_cons_succ] at hK ⊢
            go_simp
            exact hK.out _ _ hw (Below.refl _ _) (rfl)
          refine Inv.Steps.go (by decide) (by rfl) (fun σ wx hw hd K hK => ?_) ?_
          · obtain e53 : (σ 53) = .pointer (some ⟨p7, 9, none⟩) := hd 6 (some 53) (by kernel_rfl) (by rfl)
            simp only [List.getElem_toArray, List.getElem_cons_zero, List.getElem_cons_succ, Act.put, List.setIfInBounds_toArray, List.set_cons_zero, List.set_cons_succ, e53] at hK ⊢
            have hc9 := CQ.out _ hw
            go_simp
            exact hK.out _ _ hw (Below.refl _ _) (rfl)
          refine Inv.Steps.go (by decide) (by rfl) (fun σ wx hw hd K hK => ?_) ?_
          · simp only [List.getElem_toArray, List.getElem_cons_zero, List.getElem_cons_succ, Act.put, List.setIfInBounds_toArray, List.set_cons_zero, List.set_cons_succ] at hK ⊢
            go_simp
            exact hK.out _ _ hw (Below.refl _ _) (rfl)
          refine Inv.Steps.go (by decide) (by rfl) (fun σ wx hw hd K hK => ?_) ?_
          · obtain e54 : (σ 54) = .slice (some ⟨gq, 0, none⟩) nl cq := hd 7 (some 54) (by kernel_rfl) (by rfl)
            obtain e55 : (σ 55) = .int .i64 (q : Int) := hd 8 (some 55) (by kernel_rfl) (by rfl)
            simp only [List.getElem_toArray, List.getElem_cons_zero, List.getElem_cons_succ, Act.put, List.setIfInBounds_toArray, List.set_cons_zero, List.set_cons_succ, e54, e55] at hK ⊢
            go_simp
            exact hK.out _ _ hw (Below.refl _ _) (rfl)
          refine Inv.Steps.go (by decide) (by rfl) (fun σ wx hw hd K hK => ?_) ?_
          · obtain e56 : (σ 56) = .pointer (some ⟨gq, q * 6, none⟩) := hd 9 (some 56) (by kernel_rfl) (by rfl)
            simp only [List.getElem_toArray, List.getElem_cons_zero, List.getElem_cons_succ, Act.put, List.setIfInBounds_toArray, List.set_cons_zero, List.set_cons_succ, e56] at hK ⊢
            have hr4 := RQ.out _ hw
            refine wp_load_mid 37 (.tmp 56) rfl gq (q * 6) rfl (row6 (gp M q)) _ hr4 rfl rfl rfl ?_
            simp only [Act.put, List.setIfInBounds_toArray, List.set_cons_zero, List.set_cons_succ]
            exact hK.out _ _ hw (Below.refl _ _) (rfl)
          refine Inv.Steps.go (by decide) (by rfl) (fun σ wx hw hd K hK => ?_) ?_
          · simp only [List.getElem_toArray, List.getElem_cons_zero, List.getElem_cons_succ, Act.put, List.setIfInBounds_toArray, List.set_cons_zero, List.set_cons_succ] at hK ⊢
            go_simp
            exact hK.out _ _ hw (Below.refl _ _) (rfl)
          refine Inv.Steps.go (by decide) (by rfl) (fun σ wx hw hd K hK => ?_) ?_
          · obtain e58 : (σ 58) = .pointer (some ⟨p7, 9, none⟩) := hd 11 (some 58) (by kernel_rfl) (by rfl)
            simp only [List.getElem_toArray, List.getElem_cons_zero, List.getElem_cons_succ, Act.put, List.setIfInBounds_toArray, List.set_cons_zero, List.set_cons_succ, e58] at hK ⊢
            have hc9 := CQ.out _ hw
            go_simp
            exact hK.out _ _ hw (Below.refl _ _) (rfl)
          refine Inv.Steps.go (by decide) (by rfl) (fun σ wx hw hd K hK => ?_) ?_
          · simp only [List.getElem_toArray, List.getElem_cons_zero, List.getElem_cons_succ, Act.put, List.setIfInBounds_toArray, List.set_cons_zero, List.set_cons_succ] at hK ⊢
            go_simp
            exact hK.out _ _ hw (Below.refl _ _) (rfl)
          refine Inv.Steps.go (by decide) (by rfl) (fun σ wx hw hd K hK => ?_) ?_
          · obtain e59 : (σ 59) = .slice (some ⟨gq, 0, none⟩) nl cq := hd 12 (some 59) (by kernel_rfl) (by rfl)
            obtain e60 : (σ 60) = .int .i64 (ki : Int) := hd 13 (some 60) (by kernel_rfl) (by rfl)
            simp only [List.getElem_toArray, List.getElem_cons_zero, List.getElem_cons_succ, Act.put, List.setIfInBounds_toArray, List.set_cons_zero, List.set_cons_succ, e59, e60] at hK ⊢
            go_simp
            exact hK.out _ _ hw (Below.refl _ _) (rfl)
          refine Inv.Steps.go (by decide) (by rfl) (fun σ wx hw hd K hK => ?_) ?_
          · obtain e61 : (σ 61) = .pointer (some ⟨gq, ki * 6, none⟩) := hd 14 (some 61) (by kernel_rfl) (by rfl)
            simp only [List.getElem_toArray, List.getElem_cons_zero, List.getElem_cons_succ, Act.put, List.setIfInBounds_toArray, List.set_cons_zero, List.set_cons_succ, e61] at hK ⊢
            have hr4 := RK.out _ hw
            refine wp_load_mid 37 (.tmp 61) rfl gq (ki * 6) rfl (row6 (gp M ki)) _ hr4 rfl rfl rfl ?_
            simp only [Act.put, List.setIfInBounds_toArray, List.set_cons_zero, List.set_cons_succ]
            exact hK.out _ _ hw (Below.refl _ _) (rfl)
          exact Inv.Steps.nil
        · intro b1 b2 b3 σ wx hw hd
          cases b1 <;> cases b2 <;> cases b3
          · obtain e48 : (σ 48) = .slice (some ⟨gq, 0, none⟩) nl cq := hd 1 (some 48) (by kernel_rfl) (fun h => absurd h (by decide)) (fun h => absurd h (by decide)) (fun h => absurd h (by decide)) (by rfl)
            obtain e49 : (σ 49) = .int .i64 (ki : Int) := hd 2 (some 49) (by kernel_rfl) (fun h => absurd h (by decide)) (fun h => absurd h (by decide)) (fun h => absurd h (by decide)) (by rfl)
            obtain e57 : (σ 57) = .agg (row6 (gp M q)).toArray := hd 10 (some 57) (by kernel_rfl) (fun h => absurd h (by decide)) (fun h => absurd h (by decide)) (fun h => absurd h (by decide)) (by rfl)
            obtain e62 : (σ 62) = .agg (row6 (gp M ki)).toArray := hd 15 (some 62) (by kernel_rfl) (fun h => absurd h (by decide)) (fun h => absurd h (by decide)) (fun h => absurd h (by decide)) (by rfl)
            simp only [e48, e49, e57, e62]
            refine Inv.take (i := 3) (v := .pointer (some ⟨p7, 9, none⟩)) (by decide) rfl (by kernel_rfl) (by kernel_rfl) (by kernel_rfl) (fun _ _ _ h => h) (by rfl) (fun w' => ?_) ?_
            · simp only [List.getElem_toArray, List.getElem_cons_zero, List.getElem_cons_succ]
              go_simp
            try simp only [Act.put, List.setIfInBounds_toArray, List.set_cons_zero, List.set_cons_succ]
            refine Inv.take (i := 5) (v := .int .i64 (q : Int)) (by decide) rfl (by kernel_rfl) (by kernel_rfl) (by kernel_rfl) (fun _ _ _ h => h) (by rfl) (fun w' => ?_) ?_
            · simp only [List.getElem_toArray, List.getElem_cons_zero, List.getElem_cons_succ]
              go_simp
            try simp only [Act.put, List.setIfInBounds_toArray, List.set_cons_zero, List.set_cons_succ]
            refine Inv.take (i := 16) (v := .pointer (some ⟨gq, ki * 6, none⟩)) (by decide) rfl (by kernel_rfl) (by kernel_rfl) (by kernel_rfl) (fun _ _ _ h => h) (by rfl) (fun w' => ?_) ?_
            · simp only [List.getElem_toArray, List.getElem_cons_zero, List.getElem_cons_succ]
              go_simp
            try simp only [Act.put, List.setIfInBounds_toArray, List.set_cons_zero, List.set_cons_succ]
            have T1 := TK.out _ hw
            refine Inv.pair (i := 4) (k := 17) (by decide) (by decide) (by kernel_rfl) (by rfl) (by rfl) (fun K hK => ?_) (fun K hK => ?_)
            · simp only [List.getElem_toArray, List.getElem_cons_zero, List.getElem_cons_succ, Act.put, List.setIfInBounds_toArray, List.set_cons_zero, List.set_cons_succ] at hK ⊢
              have hc9 := CQ.out _ hw
              go_simp
              refine hK.out _ _ ?_
              clear hK K hc9
              try simp only [Act.put, List.setIfInBounds_toArray, List.set_cons_zero, List.set_cons_succ]
              refine Inv.one (i := 17) (by decide) (by kernel_rfl) (by rfl) (fun K hK => ?_)
              simp only [List.getElem_toArray, List.getElem_cons_zero, List.getElem_cons_succ, Act.put, List.setIfInBounds_toArray, List.set_cons_zero, List.set_cons_succ] at hK ⊢
              refine wp_store_mid 37 (.tmp 63) (.tmp 57) rfl gq (ki * 6) (row6 (gp M q)).toArray rfl rfl T1 rfl (row6_all _) ?_
              refine hK.out _ _ ?_
              clear hK K
              rw [show (row6 (gp M q)).toArray.toList = row6 (gp M q) from rfl]
              obtain ⟨wy, hwy⟩ : ∃ z, z = wx.setCells gq (ki * 6) (row6 (gp M q)) := ⟨_, rfl⟩
              rw [← hwy]
              replace hwy := Lib.hid hwy
              try simp only [Act.put, List.setIfInBounds_toArray, List.set_cons_zero, List.set_cons_succ]
              refine Inv.take (i := 18) (v := .pointer (some ⟨gq, q * 6, none⟩)) (by decide) rfl (by kernel_rfl) (by kernel_rfl) (by kernel_rfl) (fun _ _ _ h => h) (by rfl) (fun w' => ?_) ?_
              · simp only [List.getElem_toArray, List.getElem_cons_zero, List.getElem_cons_succ]
                go_simp
              try simp only [Act.put, List.setIfInBounds_toArray, List.set_cons_zero, List.set_cons_succ]
              have T2 : wy.there gq (q * 6) 6 := by rw [hwy.out]; exact TQ.out _ hw
              refine Inv.one (i := 19) (by decide) (by kernel_rfl) (by rfl) (fun K hK => ?_)
              simp only [List.getElem_toArray, List.getElem_cons_zero, List.getElem_cons_succ, Act.put, List.setIfInBounds_toArray, List.set_cons_zero, List.set_cons_succ] at hK ⊢
              refine wp_store_mid 37 (.tmp 64) (.tmp 62) rfl gq (q * 6) (row6 (gp M ki)).toArray rfl rfl T2 rfl (row6_all _) ?_
              refine hK.out _ _ ?_
              clear hK K
              rw [show (row6 (gp M ki)).toArray.toList = row6 (gp M ki) from rfl]
              obtain ⟨wz, hwz⟩ : ∃ z, z = wy.setCells gq (q * 6) (row6 (gp M ki)) := ⟨_, rfl⟩
              rw [← hwz]
              replace hwz := Lib.hid hwz
              try simp only [Act.put, List.setIfInBounds_toArray, List.set_cons_zero, List.set_cons_succ]
              refine Inv.done (by kernel_rfl) (NoPanic.normal ?_)
              have SZ : Hid (Sw w7 gq w5.heap.size nl cq wz L (swp M ki q)) := Lib.hid (by rw [hwz.out, hwy.out]; exact S9.out.swap (by rw [hMl.out]; exact hkn) (by rw [hMl.out]; exact hqn) hw)
              clear hd e48 e49 e57 e62 T1 T2 hwz hwy
              go_wp2_with fail
              go_roundw
              case rel => exact ⟨ki + 1, swp M ki q, by go_num, by omega, SZ⟩
              case measure => simp [intOf]; omega
            · simp only [List.getElem_toArray, List.getElem_cons_zero, List.getElem_cons_succ, Act.put, List.setIfInBounds_toArray, List.set_cons_zero, List.set_cons_succ] at hK ⊢
              refine wp_store_mid 37 (.tmp 63) (.tmp 57) rfl gq (ki * 6) (row6 (gp M q)).toArray rfl rfl T1 rfl (row6_all _) ?_
              refine hK.out _ _ ?_
              clear hK K
              rw [show (row6 (gp M q)).toArray.toList = row6 (gp M q) from rfl]
              obtain ⟨wy, hwy⟩ : ∃ z, z = wx.setCells gq (ki * 6) (row6 (gp M q)) := ⟨_, rfl⟩
              rw [← hwy]
              replace hwy := Lib.hid hwy
              try simp only [Act.put, List.setIfInBounds_toArray, List.set_cons_zero, List.set_cons_succ]
              refine Inv.one (i := 4) (by decide) (by kernel_rfl) (by rfl) (fun K hK => ?_)
              simp only [List.getElem_toArray, List.getElem_cons_zero, List.getElem_cons_succ, Act.put, List.setIfInBounds_toArray, List.set_cons_zero, List.set_cons_succ] at hK ⊢
              have hc9 : wy.cell? ⟨p7, 9, none⟩ = some (.slice (some ⟨gq, 0, none⟩) nl cq) := by rw [hwy.out]; exact CK.out _ hw
              go_simp
              refine hK.out _ _ ?_
              clear hK K hc9
              try simp only [Act.put, List.setIfInBounds_toArray, List.set_cons_zero, List.set_cons_succ]
              refine Inv.take (i := 18) (v := .pointer (some ⟨gq, q * 6, none⟩)) (by decide) rfl (by kernel_rfl) (by kernel_rfl) (by kernel_rfl) (fun _ _ _ h => h) (by rfl) (fun w' => ?_) ?_
              · simp only [List.getElem_toArray, List.getElem_cons_zero, List.getElem_cons_succ]
                go_simp
              try simp only [Act.put, List.setIfInBounds_toArray, List.set_cons_zero, List.set_cons_succ]
              have T2 : wy.there gq (q * 6) 6 := by rw [hwy.out]; exact TQ.out _ hw
              refine Inv.one (i := 19) (by decide) (by kernel_rfl) (by rfl) (fun K hK => ?_)
              simp only [List.getElem_toArray, List.getElem_cons_zero, List.getElem_cons_succ, Act.put, List.setIfInBounds_toArray, List.set_cons_zero, List.set_cons_succ] at hK ⊢
              refine wp_store_mid 37 (.tmp 64) (.tmp 62) rfl gq (q * 6) (row6 (gp M ki)).toArray rfl rfl T2 rfl (row6_all _) ?_
              refine hK.out _ _ ?_
              clear hK K
              rw [show (row6 (gp M ki)).toArray.toList = row6 (gp M ki) from rfl]
              obtain ⟨wz, hwz⟩ : ∃ z, z = wy.setCells gq (q * 6) (row6 (gp M ki)) := ⟨_, rfl⟩
              rw [← hwz]
              replace hwz := Lib.hid hwz
              try simp only [Act.put, List.setIfInBounds_toArray, List.set_cons_zero, List.set_cons_succ]
              refine Inv.done (by kernel_rfl) (NoPanic.normal ?_)
              have SZ : Hid (Sw w7 gq w5.heap.size nl cq wz L (swp M ki q)) := Lib.hid (by rw [hwz.out, hwy.out]; exact S9.out.swap (by rw [hMl.out]; exact hkn) (by rw [hMl.out]; exact hqn) hw)
              clear hd e48 e49 e57 e62 T1 T2 hwz hwy
              go_wp2_with fail
              go_roundw
              case rel => exact ⟨ki + 1, swp M ki q, by go_num, by omega, SZ⟩
              case measure => simp [intOf]; omega
          · obtain e48 : (σ 48) = .slice (some ⟨gq, 0, none⟩) nl cq := hd 1 (some 48) (by kernel_rfl) (fun h => absurd h (by decide)) (fun h => absurd h (by decide)) (fun h => absurd h (by decide)) (by rfl)
            obtain e49 : (σ 49) = .int .i64 (ki : Int) := hd 2 (some 49) (by kernel_rfl) (fun h => absurd h (by decide)) (fun h => absurd h (by decide)) (fun h => absurd h (by decide)) (by rfl)
            obtain e57 : (σ 57) = .agg (row6 (gp M q)).toArray := hd 10 (some 57) (by kernel_rfl) (fun h => absurd h (by decide)) (fun h => absurd h (by decide)) (fun h => absurd h (by decide)) (by rfl)
            obtain e62 : (σ 62) = .agg (row6 (gp M ki)).toArray := hd 15 (some 62) (by kernel_rfl) (fun h => absurd h (by decide)) (fun h => absurd h (by decide)) (fun h => absurd h (by decide)) (by rfl)
            obtain e52 : (σ 52) = .int .i64 (q : Int) := hd 5 (some 52) (by kernel_rfl) (fun h => absurd h (by decide)) (fun h => absurd h (by decide)) (fun _ => rfl) (by rfl)
            simp only [e48, e49, e57, e62, e52]
            refine Inv.take (i := 3) (v := .pointer (some ⟨p7, 9, none⟩)) (by decide) rfl (by kernel_rfl) (by kernel_rfl) (by kernel_rfl) (fun _ _ _ h => h) (by rfl) (fun w' => ?_) ?_
            · simp only [List.getElem_toArray, List.getElem_cons_zero, List.getElem_cons_succ]
              go_simp
            try simp only [Act.put, List.setIfInBounds_toArray, List.set_cons_zero, List.set_cons_succ]
            refine Inv.take (i := 16) (v := .pointer (some ⟨gq, ki * 6, none⟩)) (by decide) rfl (by kernel_rfl) (by kernel_rfl) (by kernel_rfl) (fun _ _ _ h => h) (by rfl) (fun w' => ?_) ?_
            · simp only [List.getElem_toArray, List.getElem_cons_zero, List.getElem_cons_succ]
              go_simp
            try simp only [Act.put, List.setIfInBounds_toArray, List.set_cons_zero, List.set_cons_succ]
            have T1 := TK.out _ hw
            refine Inv.pair (i := 4) (k := 17) (by decide) (by decide) (by kernel_rfl) (by rfl) (by rfl) (fun K hK => ?_) (fun K hK => ?_)
            · simp only [List.getElem_toArray, List.getElem_cons_zero, List.getElem_cons_succ, Act.put, List.setIfInBounds_toArray, List.set_cons_zero, List.set_cons_succ] at hK ⊢
              have hc9 := CQ.out _ hw
              go_simp
              refine hK.out _ _ ?_
              clear hK K hc9
              try simp only [Act.put, List.setIfInBounds_toArray, List.set_cons_zero, List.set_cons_succ]
              refine Inv.one (i := 17) (by decide) (by kernel_rfl) (by rfl) (fun K hK => ?_)
              simp only [List.getElem_toArray, List.getElem_cons_zero, List.getElem_cons_succ, Act.put, List.setIfInBounds_toArray, List.set_cons_zero, List.set_cons_succ] at hK ⊢
              refine wp_store_mid 37 (.tmp 63) (.tmp 57) rfl gq (ki * 6) (row6 (gp M q)).toArray rfl rfl T1 rfl (row6_all _) ?_
              refine hK.out _ _ ?_
              clear hK K
              rw [show (row6 (gp M q)).toArray.toList = row6 (gp M q) from rfl]
              obtain ⟨wy, hwy⟩ : ∃ z, z = wx.setCells gq (ki * 6) (row6 (gp M q)) := ⟨_, rfl⟩
              rw [← hwy]
              replace hwy := Lib.hid hwy
              try simp only [Act.put, List.setIfInBounds_toArray, List.set_cons_zero, List.set_cons_succ]
              refine Inv.take (i := 18) (v := .pointer (some ⟨gq, q * 6, none⟩)) (by decide) rfl (by kernel_rfl) (by kernel_rfl) (by kernel_rfl) (fun _ _ _ h => h) (by rfl) (fun w' => ?_) ?_
              · simp only [List.getElem_toArray, List.getElem_cons_zero, List.getElem_cons_succ]
                go_simp
              try simp only [Act.put, List.setIfInBounds_toArray, List.set_cons_zero, List.set_cons_succ]
              have T2 : wy.there gq (q * 6) 6 := by rw [hwy.out]; exact TQ.out _ hw
              refine Inv.one (i := 19) (by decide) (by kernel_rfl) (by rfl) (fun K hK => ?_)
              simp only [List.getElem_toArray, List.getElem_cons_zero, List.getElem_cons_succ, Act.put, List.setIfInBounds_toArray, List.set_cons_zero, List.set_cons_succ] at hK ⊢
              refine wp_store_mid 37 (.tmp 64) (.tmp 62) rfl gq (q * 6) (row6 (gp M ki)).toArray rfl rfl T2 rfl (row6_all _) ?_
              refine hK.out _ _ ?_
              clear hK K
              rw [show (row6 (gp M ki)).toArray.toList = row6 (gp M ki) from rfl]
              obtain ⟨wz, hwz⟩ : ∃ z, z = wy.setCells gq (q * 6) (row6 (gp M ki)) := ⟨_, rfl⟩
              rw [← hwz]
              replace hwz := Lib.hid hwz
              try simp only [Act.put, List.setIfInBounds_toArray, List.set_cons_zero, List.set_cons_succ]
              refine Inv.done (by kernel_rfl) (NoPanic.normal ?_)
              have SZ : Hid (Sw w7 gq w5.heap.size nl cq wz L (swp M ki q)) := Lib.hid (by rw [hwz.out, hwy.out]; exact S9.out.swap (by rw [hMl.out]; exact hkn) (by rw [hMl.out]; exact hqn) hw)
              clear hd e48 e49 e57 e62 T1 T2 hwz hwy
              go_wp2_with fail
              go_roundw
              case rel => exact ⟨ki + 1, swp M ki q, by go_num, by omega, SZ⟩
              case measure => simp [intOf]; omega
            · simp only [List.getElem_toArray, List.getElem_cons_zero, List.getElem_cons_succ, Act.put, List.setIfInBounds_toArray, List.set_cons_zero, List.set_cons_succ] at hK ⊢
              refine wp_store_mid 37 (.tmp 63) (.tmp 57) rfl gq (ki * 6) (row6 (gp M q)).toArray rfl rfl T1 rfl (row6_all _) ?_
              refine hK.out _ _ ?_
              clear hK K
              rw [show (row6 (gp M q)).toArray.toList = row6 (gp M q) from rfl]
              obtain ⟨wy, hwy⟩ : ∃ z, z = wx.setCells gq (ki * 6) (row6 (gp M q)) := ⟨_, rfl⟩
              rw [← hwy]
              replace hwy := Lib.hid hwy
              try simp only [Act.put, List.setIfInBounds_toArray, List.set_cons_zero, List.set_cons_succ]
              refine Inv.one (i := 4) (by decide) (by kernel_rfl) (by rfl) (fun K hK => ?_)
              simp only [List.getElem_toArray, List.getElem_cons_zero, List.getElem_cons_succ, Act.put, List.setIfInBounds_toArray, List.set_cons_zero, List.set_cons_succ] at hK ⊢
              have hc9 : wy.cell? ⟨p7, 9, none⟩ = some (.slice (some ⟨gq, 0, none⟩) nl cq) := by rw [hwy.out]; exact CK.out _ hw
              go_simp
              refine hK.out _ _ ?_
              clear hK K hc9
              try simp only [Act.put, List.setIfInBounds_toArray, List.set_cons_zero, List.set_cons_succ]
              refine Inv.take (i := 18) (v := .pointer (some ⟨gq, q * 6, none⟩)) (by decide) rfl (by kernel_rfl) (by kernel_rfl) (by kernel_rfl) (fun _ _ _ h => h) (by rfl) (fun w' => ?_) ?_
              · simp only [List.getElem_toArray, List.getElem_cons_zero, List.getElem_cons_succ]
                go_simp
              try simp only [Act.put, List.setIfInBounds_toArray, List.set_cons_zero, List.set_cons_succ]
              have T2 : wy.there gq (q * 6) 6 := by rw [hwy.out]; exact TQ.out _ hw
              refine Inv.one (i := 19) (by decide) (by kernel_rfl) (by rfl) (fun K hK => ?_)
              simp only [List.getElem_toArray, List.getElem_cons_zero, List.getElem_cons_succ, Act.put, List.setIfInBounds_toArray, List.set_cons_zero, List.set_cons_succ] at hK ⊢
              refine wp_store_mid 37 (.tmp 64) (.tmp 62) rfl gq (q * 6) (row6 (gp M ki)).toArray rfl rfl T2 rfl (row6_all _) ?_
              refine hK.out _ _ ?_
              clear hK K
              rw [show (row6 (gp M ki)).toArray.toList = row6 (gp M ki) from rfl]
              obtain ⟨wz, hwz⟩ : ∃ z, z = wy.setCells gq (q * 6) (row6 (gp M ki)) := ⟨_, rfl⟩
              rw [← hwz]
              replace hwz := Lib.hid hwz
              try simp only [Act.put, List.setIfInBounds_toArray, List.set_cons_zero, List.set_cons_succ]
              refine Inv.done (by kernel_rfl) (NoPanic.normal ?_)
              have SZ : Hid (Sw w7 gq w5.heap.size nl cq wz L (swp M ki q)) := Lib.hid (by rw [hwz.out, hwy.out]; exact S9.out.swap (by rw [hMl.out]; exact hkn) (by rw [hMl.out]; exact hqn) hw)
              clear hd e48 e49 e57 e62 T1 T2 hwz hwy
              go_wp2_with fail
              go_roundw
              case rel => exact ⟨ki + 1, swp M ki q, by go_num, by omega, SZ⟩
              case measure => simp [intOf]; omega
          · obtain e48 : (σ 48) = .slice (some ⟨gq, 0, none⟩) nl cq := hd 1 (some 48) (by kernel_rfl) (fun h => absurd h (by decide)) (fun h => absurd h (by decide)) (fun h => absurd h (by decide)) (by rfl)
            obtain e49 : (σ 49) = .int .i64 (ki : Int) := hd 2 (some 49) (by kernel_rfl) (fun h => absurd h (by decide)) (fun h => absurd h (by decide)) (fun h => absurd h (by decide)) (by rfl)
            obtain e57 : (σ 57) = .agg (row6 (gp M q)).toArray := hd 10 (some 57) (by kernel_rfl) (fun h => absurd h (by decide)) (fun h => absurd h (by decide)) (fun h => absurd h (by decide)) (by rfl)
            obtain e62 : (σ 62) = .agg (row6 (gp M ki)).toArray := hd 15 (some 62) (by kernel_rfl) (fun h => absurd h (by decide)) (fun h => absurd h (by decide)) (fun h => absurd h (by decide)) (by rfl)
            obtain e51 : (σ 51) = .slice (some ⟨gq, 0, none⟩) nl cq := hd 4 (some 51) (by kernel_rfl) (fun h => absurd h (by decide)) (fun _ => rfl) (fun h => absurd h (by decide)) (by rfl)
            simp only [e48, e49, e57, e62, e51]
            refine Inv.take (i := 3) (v := .pointer (some ⟨p7, 9, none⟩)) (by decide) rfl (by kernel_rfl) (by kernel_rfl) (by kernel_rfl) (fun _ _ _ h => h) (by rfl) (fun w' => ?_) ?_
            · simp only [List.getElem_toArray, List.getElem_cons_zero, List.getElem_cons_succ]
              go_simp
            try simp only [Act.put, List.setIfInBounds_toArray, List.set_cons_zero, List.set_cons_succ]
            refine Inv.take (i := 5) (v := .int .i64 (q : Int)) (by decide) rfl (by kernel_rfl) (by kernel_rfl) (by kernel_rfl) (fun _ _ _ h => h) (by rfl) (fun w' => ?_) ?_
            · simp only [List.getElem_toArray, List.getElem_cons_zero, List.getElem_cons_succ]
              go_simp
            try simp only [Act.put, List.setIfInBounds_toArray, List.set_cons_zero, List.set_cons_succ]
            refine Inv.take (i := 16) (v := .pointer (some ⟨gq, ki * 6, none⟩)) (by decide) rfl (by kernel_rfl) (by kernel_rfl) (by kernel_rfl) (fun _ _ _ h => h) (by rfl) (fun w' => ?_) ?_
            · simp only [List.getElem_toArray, List.getElem_cons_zero, List.getElem_cons_succ]
              go_simp
            try simp only [Act.put, List.setIfInBounds_toArray, List.set_cons_zero, List.set_cons_succ]
            have T1 := TK.out _ hw
            refine Inv.one (i := 17) (by decide) (by kernel_rfl) (by rfl) (fun K hK => ?_)
            simp only [List.getElem_toArray, List.getElem_cons_zero, List.getElem_cons_succ, Act.put, List.setIfInBounds_toArray, List.set_cons_zero, List.set_cons_succ] at hK ⊢
            refine wp_store_mid 37 (.tmp 63) (.tmp 57) rfl gq (ki * 6) (row6 (gp M q)).toArray rfl rfl T1 rfl (row6_all _) ?_
            refine hK.out _ _ ?_
            clear hK K
            rw [show (row6 (gp M q)).toArray.toList = row6 (gp M q) from rfl]
            obtain ⟨wy, hwy⟩ : ∃ z, z = wx.setCells gq (ki * 6) (row6 (gp M q)) := ⟨_, rfl⟩
            rw [← hwy]
            replace hwy := Lib.hid hwy
            try simp only [Act.put, List.setIfInBounds_toArray, List.set_cons_zero, List.set_cons_succ]
            refine Inv.take (i := 18) (v := .pointer (some ⟨gq, q * 6, none⟩)) (by decide) rfl (by kernel_rfl) (by kernel_rfl) (by kernel_rfl) (fun _ _ _ h => h) (by rfl) (fun w' => ?_) ?_
            · simp only [List.getElem_toArray, List.getElem_cons_zero, List.getElem_cons_succ]
              go_simp
            try simp only [Act.put, List.setIfInBounds_toArray, List.set_cons_zero, List.set_cons_succ]
            have T2 : wy.there gq (q * 6) 6 := by rw [hwy.out]; exact TQ.out _ hw
            refine Inv.one (i := 19) (by decide) (by kernel_rfl) (by rfl) (fun K hK => ?_)
            simp only [List.getElem_toArray, List.getElem_cons_zero, List.getElem_cons_succ, Act.put, List.setIfInBounds_toArray, List.set_cons_zero, List.set_cons_succ] at hK ⊢
            refine wp_store_mid 37 (.tmp 64) (.tmp 62) rfl gq (q * 6) (row6 (gp M ki)).toArray rfl rfl T2 rfl (row6_all _) ?_
            refine hK.out _ _ ?_
            clear hK K
            rw [show (row6 (gp M ki)).toArray.toList = row6 (gp M ki) from rfl]
            obtain ⟨wz, hwz⟩ : ∃ z, z = wy.setCells gq (q * 6) (row6 (gp M ki)) := ⟨_, rfl⟩
            rw [← hwz]
            replace hwz := Lib.hid hwz
            try simp only [Act.put, List.setIfInBounds_toArray, List.set_cons_zero, List.set_cons_succ]
            refine Inv.done (by kernel_rfl) (NoPanic.normal ?_)
            have SZ : Hid (Sw w7 gq w5.heap.size nl cq wz L (swp M ki q)) := Lib.hid (by rw [hwz.out, hwy.out]; exact S9.out.swap (by rw [hMl.out]; exact hkn) (by rw [hMl.out]; exact hqn) hw)
            clear hd e48 e49 e57 e62 T1 T2 hwz hwy
            go_wp2_with fail
            go_roundw
            case rel => exact ⟨ki + 1, swp M ki q, by go_num, by omega, SZ⟩
            case measure => simp [intOf]; omega
          · obtain e48 : (σ 48) = .slice (some ⟨gq, 0, none⟩) nl cq := hd 1 (some 48) (by kernel_rfl) (fun h => absurd h (by decide)) (fun h => absurd h (by decide)) (fun h => absurd h (by decide)) (by rfl)
            obtain e49 : (σ 49) = .int .i64 (ki : Int) := hd 2 (some 49) (by kernel_rfl) (fun h => absurd h (by decide)) (fun h => absurd h (by decide)) (fun h => absurd h (by decide)) (by rfl)
            obtain e57 : (σ 57) = .agg (row6 (gp M q)).toArray := hd 10 (some 57) (by kernel_rfl) (fun h => absurd h (by decide)) (fun h => absurd h (by decide)) (fun h => absurd h (by decide)) (by rfl)
            obtain e62 : (σ 62) = .agg (row6 (gp M ki)).toArray := hd 15 (some 62) (by kernel_rfl) (fun h => absurd h (by decide)) (fun h => absurd h (by decide)) (fun h => absurd h (by decide)) (by rfl)
            obtain e51 : (σ 51) = .slice (some ⟨gq, 0, none⟩) nl cq := hd 4 (some 51) (by kernel_rfl) (fun h => absurd h (by decide)) (fun _ => rfl) (fun h => absurd h (by decide)) (by rfl)
            obtain e52 : (σ 52) = .int .i64 (q : Int) := hd 5 (some 52) (by kernel_rfl) (fun h => absurd h (by decide)) (fun h => absurd h (by decide)) (fun _ => rfl) (by rfl)
            simp only [e48, e49, e57, e62, e51, e52]
            refine Inv.take (i := 3) (v := .pointer (some ⟨p7, 9, none⟩)) (by decide) rfl (by kernel_rfl) (by kernel_rfl) (by kernel_rfl) (fun _ _ _ h => h) (by rfl) (fun w' => ?_) ?_
            · simp only [List.getElem_toArray, List.getElem_cons_zero, List.getElem_cons_succ]
              go_simp
            try simp only [Act.put, List.setIfInBounds_toArray, List.set_cons_zero, List.set_cons_succ]
            refine Inv.take (i := 16) (v := .pointer (some ⟨gq, ki * 6, none⟩)) (by decide) rfl (by kernel_rfl) (by kernel_rfl) (by kernel_rfl) (fun _ _ _ h => h) (by rfl) (fun w' => ?_) ?_
            · simp only [List.getElem_toArray, List.getElem_cons_zero, List.getElem_cons_succ]
              go_simp
            try simp only [Act.put, List.setIfInBounds_toArray, List.set_cons_zero, List.set_cons_succ]
            have T1 := TK.out _ hw
            refine Inv.one (i := 17) (by decide) (by kernel_rfl) (by rfl) (fun K hK => ?_)
            simp only [List.getElem_toArray, List.getElem_cons_zero, List.getElem_cons_succ, Act.put, List.setIfInBounds_toArray, List.set_cons_zero, List.set_cons_succ] at hK ⊢
            refine wp_store_mid 37 (.tmp 63) (.tmp 57) rfl gq (ki * 6) (row6 (gp M q)).toArray rfl rfl T1 rfl (row6_all _) ?_
            refine hK.out _ _ ?_
            clear hK K
            rw [show (row6 (gp M q)).toArray.toList = row6 (gp M q) from rfl]
            obtain ⟨wy, hwy⟩ : ∃ z, z = wx.setCells gq (ki * 6) (row6 (gp M q)) := ⟨_, rfl⟩
            rw [← hwy]
            replace hwy := Lib.hid hwy
            try simp only [Act.put, List.setIfInBounds_toArray, List.set_cons_zero, List.set_cons_succ]
            refine Inv.take (i := 18) (v := .pointer (some ⟨gq, q * 6, none⟩)) (by decide) rfl (by kernel_rfl) (by kernel_rfl) (by kernel_rfl) (fun _ _ _ h => h) (by rfl) (fun w' => ?_) ?_
            · simp only [List.getElem_toArray, List.getElem_cons_zero, List.getElem_cons_succ]
              go_simp
            try simp only [Act.put, List.setIfInBounds_toArray, List.set_cons_zero, List.set_cons_succ]
            have T2 : wy.there gq (q * 6) 6 := by rw [hwy.out]; exact TQ.out _ hw
            refine Inv.one (i := 19) (by decide) (by kernel_rfl) (by rfl) (fun K hK => ?_)
            simp only [List.getElem_toArray, List.getElem_cons_zero, List.getElem_cons_succ, Act.put, List.setIfInBounds_toArray, List.set_cons_zero, List.set_cons_succ] at hK ⊢
            refine wp_store_mid 37 (.tmp 64) (.tmp 62) rfl gq (q * 6) (row6 (gp M ki)).toArray rfl rfl T2 rfl (row6_all _) ?_
            refine hK.out _ _ ?_
            clear hK K
            rw [show (row6 (gp M ki)).toArray.toList = row6 (gp M ki) from rfl]
            obtain ⟨wz, hwz⟩ : ∃ z, z = wy.setCells gq (q * 6) (row6 (gp M ki)) := ⟨_, rfl⟩
            rw [← hwz]
            replace hwz := Lib.hid hwz
            try simp only [Act.put, List.setIfInBounds_toArray, List.set_cons_zero, List.set_cons_succ]
            refine Inv.done (by kernel_rfl) (NoPanic.normal ?_)
            have SZ : Hid (Sw w7 gq w5.heap.size nl cq wz L (swp M ki q)) := Lib.hid (by rw [hwz.out, hwy.out]; exact S9.out.swap (by rw [hMl.out]; exact hkn) (by rw [hMl.out]; exact hqn) hw)
            clear hd e48 e49 e57 e62 T1 T2 hwz hwy
            go_wp2_with fail
            go_roundw
            case rel => exact ⟨ki + 1, swp M ki q, by go_num, by omega, SZ⟩
            case measure => simp [intOf]; omega
          · obtain e48 : (σ 48) = .slice (some ⟨gq, 0, none⟩) nl cq := hd 1 (some 48) (by kernel_rfl) (fun h => absurd h (by decide)) (fun h => absurd h (by decide)) (fun h => absurd h (by decide)) (by rfl)
            obtain e49 : (σ 49) = .int .i64 (ki : Int) := hd 2 (some 49) (by kernel_rfl) (fun h => absurd h (by decide)) (fun h => absurd h (by decide)) (fun h => absurd h (by decide)) (by rfl)
            obtain e57 : (σ 57) = .agg (row6 (gp M q)).toArray := hd 10 (some 57) (by kernel_rfl) (fun h => absurd h (by decide)) (fun h => absurd h (by decide)) (fun h => absurd h (by decide)) (by rfl)
            obtain e62 : (σ 62) = .agg (row6 (gp M ki)).toArray := hd 15 (some 62) (by kernel_rfl) (fun h => absurd h (by decide)) (fun h => absurd h (by decide)) (fun h => absurd h (by decide)) (by rfl)
            obtain e50 : (σ 50) = .pointer (some ⟨p7, 9, none⟩) := hd 3 (some 50) (by kernel_rfl) (fun _ => rfl) (fun h => absurd h (by decide)) (fun h => absurd h (by decide)) (by rfl)
            simp only [e48, e49, e57, e62, e50]
            refine Inv.take (i := 5) (v := .int .i64 (q : Int)) (by decide) rfl (by kernel_rfl) (by kernel_rfl) (by kernel_rfl) (fun _ _ _ h => h) (by rfl) (fun w' => ?_) ?_
            · simp only [List.getElem_toArray, List.getElem_cons_zero, List.getElem_cons_succ]
              go_simp
            try simp only [Act.put, List.setIfInBounds_toArray, List.set_cons_zero, List.set_cons_succ]
            refine Inv.take (i := 16) (v := .pointer (some ⟨gq, ki * 6, none⟩)) (by decide) rfl (by kernel_rfl) (by kernel_rfl) (by kernel_rfl) (fun _ _ _ h => h) (by rfl) (fun w' => ?_) ?_
            · simp only [List.getElem_toArray, List.getElem_cons_zero, List.getElem_cons_succ]
              go_simp
            try simp only [Act.put, List.setIfInBounds_toArray, List.set_cons_zero, List.set_cons_succ]
            have T1 := TK.out _ hw
            refine Inv.pair (i := 4) (k := 17) (by decide) (by decide) (by kernel_rfl) (by rfl) (by rfl) (fun K hK => ?_) (fun K hK => ?_)
            · simp only [List.getElem_toArray, List.getElem_cons_zero, List.getElem_cons_succ, Act.put, List.setIfInBounds_toArray, List.set_cons_zero, List.set_cons_succ] at hK ⊢
              have hc9 := CQ.out _ hw
              go_simp
              refine hK.out _ _ ?_
              clear hK K hc9
              try simp only [Act.put, List.setIfInBounds_toArray, List.set_cons_zero, List.set_cons_succ]
              refine Inv.one (i := 17) (by decide) (by kernel_rfl) (by rfl) (fun K hK => ?_)
              simp only [List.getElem_toArray, List.getElem_cons_zero, List.getElem_cons_succ, Act.put, List.setIfInBounds_toArray, List.set_cons_zero, List.set_cons_succ] at hK ⊢
              refine wp_store_mid 37 (.tmp 63) (.tmp 57) rfl gq (ki * 6) (row6 (gp M q)).toArray rfl rfl T1 rfl (row6_all _) ?_
              refine hK.out _ _ ?_
              clear hK K
              rw [show (row6 (gp M q)).toArray.toList = row6 (gp M q) from rfl]
              obtain ⟨wy, hwy⟩ : ∃ z, z = wx.setCells gq (ki * 6) (row6 (gp M q)) := ⟨_, rfl⟩
              rw [← hwy]
              replace hwy := Lib.hid hwy
              try simp only [Act.put, List.setIfInBounds_toArray, List.set_cons_zero, List.set_cons_succ]
              refine Inv.take (i := 18) (v := .pointer (some ⟨gq, q * 6, none⟩)) (by decide) rfl (by kernel_rfl) (by kernel_rfl) (by kernel_rfl) (fun _ _ _ h => h) (by rfl) (fun w' => ?_) ?_
              · simp only [List.getElem_toArray, List.getElem_cons_zero, List.getElem_cons_succ]
                go_simp
              try simp only [Act.put, List.setIfInBounds_toArray, List.set_cons_zero, List.set_cons_succ]
              have T2 : wy.there gq (q * 6) 6 := by rw [hwy.out]; exact TQ.out _ hw
              refine Inv.one (i := 19) (by decide) (by kernel_rfl) (by rfl) (fun K hK => ?_)
              simp only [List.getElem_toArray, List.getElem_cons_zero, List.getElem_cons_succ, Act.put, List.setIfInBounds_toArray, List.set_cons_zero, List.set_cons_succ] at hK ⊢
              refine wp_store_mid 37 (.tmp 64) (.tmp 62) rfl gq (q * 6) (row6 (gp M ki)).toArray rfl rfl T2 rfl (row6_all _) ?_
              refine hK.out _ _ ?_
              clear hK K
              rw [show (row6 (gp M ki)).toArray.toList = row6 (gp M ki) from rfl]
              obtain ⟨wz, hwz⟩ : ∃ z, z = wy.setCells gq (q * 6) (row6 (gp M ki)) := ⟨_, rfl⟩
              rw [← hwz]
              replace hwz := Lib.hid hwz
              try simp only [Act.put, List.setIfInBounds_toArray, List.set_cons_zero, List.set_cons_succ]
              refine Inv.done (by kernel_rfl) (NoPanic.normal ?_)
              have SZ : Hid (Sw w7 gq w5.heap.size nl cq wz L (swp M ki q)) := Lib.hid (by rw [hwz.out, hwy.out]; exact S9.out.swap (by rw [hMl.out]; exact hkn) (by rw [hMl.out]; exact hqn) hw)
              clear hd e48 e49 e57 e62 T1 T2 hwz hwy
              go_wp2_with fail
              go_roundw
              case rel => exact ⟨ki + 1, swp M ki q, by go_num, by omega, SZ⟩
              case measure => simp [intOf]; omega
            · simp only [List.getElem_toArray, List.getElem_cons_zero, List.getElem_cons_succ, Act.put, List.setIfInBounds_toArray, List.set_cons_zero, List.set_cons_succ] at hK ⊢
              refine wp_store_mid 37 (.tmp 63) (.tmp 57) rfl gq (ki * 6) (row6 (gp M q)).toArray rfl rfl T1 rfl (row6_all _) ?_
              refine hK.out _ _ ?_
              clear hK K
              rw [show (row6 (gp M q)).toArray.toList = row6 (gp M q) from rfl]
              obtain ⟨wy, hwy⟩ : ∃ z, z = wx.setCells gq (ki * 6) (row6 (gp M q)) := ⟨_, rfl⟩
              rw [← hwy]
              replace hwy := Lib.hid hwy
              try simp only [Act.put, List.setIfInBounds_toArray, List.set_cons_zero, List.set_cons_succ]
              refine Inv.one (i := 4) (by decide) (by kernel_rfl) (by rfl) (fun K hK => ?_)
              simp only [List.getElem_toArray, List.getElem_cons_zero, List.getElem_cons_succ, Act.put, List.setIfInBounds_toArray, List.set_cons_zero, List.set_cons_succ] at hK ⊢
              have hc9 : wy.cell? ⟨p7, 9, none⟩ = some (.slice (some ⟨gq, 0, none⟩) nl cq) := by rw [hwy.out]; exact CK.out _ hw
              go_simp
              refine hK.out _ _ ?_
              clear hK K hc9
              try simp only [Act.put, List.setIfInBounds_toArray, List.set_cons_zero, List.set_cons_succ]
              refine Inv.take (i := 18) (v := .pointer (some ⟨gq, q * 6, none⟩)) (by decide) rfl (by kernel_rfl) (by kernel_rfl) (by kernel_rfl) (fun _ _ _ h => h) (by rfl) (fun w' => ?_) ?_
              · simp only [List.getElem_toArray, List.getElem_cons_zero, List.getElem_cons_succ]
                go_simp
              try simp only [Act.put, List.setIfInBounds_toArray, List.set_cons_zero, List.set_cons_succ]
              have T2 : wy.there gq (q * 6) 6 := by rw [hwy.out]; exact TQ.out _ hw
              refine Inv.one (i := 19) (by decide) (by kernel_rfl) (by rfl) (fun K hK => ?_)
              simp only [List.getElem_toArray, List.getElem_cons_zero, List.getElem_cons_succ, Act.put, List.setIfInBounds_toArray, List.set_cons_zero, List.set_cons_succ] at hK ⊢
              refine wp_store_mid 37 (.tmp 64) (.tmp 62) rfl gq (q * 6) (row6 (gp M ki)).toArray rfl rfl T2 rfl (row6_all _) ?_
              refine hK.out _ _ ?_
              clear hK K
              rw [show (row6 (gp M ki)).toArray.toList = row6 (gp M ki) from rfl]
              obtain ⟨wz, hwz⟩ : ∃ z, z = wy.setCells gq (q * 6) (row6 (gp M ki)) := ⟨_, rfl⟩
              rw [← hwz]
              replace hwz := Lib.hid hwz
              try simp only [Act.put, List.setIfInBounds_toArray, List.set_cons_zero, List.set_cons_succ]
              refine Inv.done (by kernel_rfl) (NoPanic.normal ?_)
              have SZ : Hid (Sw w7 gq w5.heap.size nl cq wz L (swp M ki q)) := Lib.hid (by rw [hwz.out, hwy.out]; exact S9.out.swap (by rw [hMl.out]; exact hkn) (by rw [hMl.out]; exact hqn) hw)
              clear hd e48 e49 e57 e62 T1 T2 hwz hwy
              go_wp2_with fail
              go_roundw
              case rel => exact ⟨ki + 1, swp M ki q, by go_num, by omega, SZ⟩
              case measure => simp [intOf]; omega
          · obtain e48 : (σ 48) = .slice (some ⟨gq, 0, none⟩) nl cq := hd 1 (some 48) (by kernel_rfl) (fun h => absurd h (by decide)) (fun h => absurd h (by decide)) (fun h => absurd h (by decide)) (by rfl)
            obtain e49 : (σ 49) = .int .i64 (ki : Int) := hd 2 (some 49) (by kernel_rfl) (fun h => absurd h (by decide)) (fun h => absurd h (by decide)) (fun h => absurd h (by decide)) (by rfl)
            obtain e57 : (σ 57) = .agg (row6 (gp M q)).toArray := hd 10 (some 57) (by kernel_rfl) (fun h => absurd h (by decide)) (fun h => absurd h (by decide)) (fun h => absurd h (by decide)) (by rfl)
            obtain e62 : (σ 62) = .agg (row6 (gp M ki)).toArray := hd 15 (some 62) (by kernel_rfl) (fun h => absurd h (by decide)) (fun h => absurd h (by decide)) (fun h => absurd h (by decide)) (by rfl)
            obtain e50 : (σ 50) = .pointer (some ⟨p7, 9, none⟩) := hd 3 (some 50) (by kernel_rfl) (fun _ => rfl) (fun h => absurd h (by decide)) (fun h => absurd h (by decide)) (by rfl)
            obtain e52 : (σ 52) = .int .i64 (q : Int) := hd 5 (some 52) (by kernel_rfl) (fun h => absurd h (by decide)) (fun h => absurd h (by decide)) (fun _ => rfl) (by rfl)
            simp only [e48, e49, e57, e62, e50, e52]
            refine Inv.take (i := 16) (v := .pointer (some ⟨gq, ki * 6, none⟩)) (by decide) rfl (by kernel_rfl) (by kernel_rfl) (by kernel_rfl) (fun _ _ _ h => h) (by rfl) (fun w' => ?_) ?_
            · simp only [List.getElem_toArray, List.getElem_cons_zero, List.getElem_cons_succ]
              go_simp
            try simp only [Act.put, List.setIfInBounds_toArray, List.set_cons_zero, List.set_cons_succ]
            have T1 := TK.out _ hw
            refine Inv.pair (i := 4) (k := 17) (by decide) (by decide) (by kernel_rfl) (by rfl) (by rfl) (fun K hK => ?_) (fun K hK => ?_)
            · simp only [List.getElem_toArray, List.getElem_cons_zero, List.getElem_cons_succ, Act.put, List.setIfInBounds_toArray, List.set_cons_zero, List.set_cons_succ] at hK ⊢
              have hc9 := CQ.out _ hw
              go_simp
              refine hK.out _ _ ?_
              clear hK K hc9
              try simp only [Act.put, List.setIfInBounds_toArray, List.set_cons_zero, List.set_cons_succ]
              refine Inv.one (i := 17) (by decide) (by kernel_rfl) (by rfl) (fun K hK => ?_)
              simp only [List.getElem_toArray, List.getElem_cons_zero, List.getElem_cons_succ, Act.put, List.setIfInBounds_toArray, List.set_cons_zero, List.set_cons_succ] at hK ⊢
              refine wp_store_mid 37 (.tmp 63) (.tmp 57) rfl gq (ki * 6) (row6 (gp M q)).toArray rfl rfl T1 rfl (row6_all _) ?_
              refine hK.out _ _ ?_
              clear hK K
              rw [show (row6 (gp M q)).toArray.toList = row6 (gp M q) from rfl]
              obtain ⟨wy, hwy⟩ : ∃ z, z = wx.setCells gq (ki * 6) (row6 (gp M q)) := ⟨_, rfl⟩
              rw [← hwy]
              replace hwy := Lib.hid hwy
              try simp only [Act.put, List.setIfInBounds_toArray, List.set_cons_zero, List.set_cons_succ]
              refine Inv.take (i := 18) (v := .pointer (some ⟨gq, q * 6, none⟩)) (by decide) rfl (by kernel_rfl) (by kernel_rfl) (by kernel_rfl) (fun _ _ _ h => h) (by rfl) (fun w' => ?_) ?_
              · simp only [List.getElem_toArray, List.getElem_cons_zero, List.getElem_cons_succ]
                go_simp
              try simp only [Act.put, List.setIfInBounds_toArray, List.set_cons_zero, List.set_cons_succ]
              have T2 : wy.there gq (q * 6) 6 := by rw [hwy.out]; exact TQ.out _ hw
              refine Inv.one (i := 19) (by decide) (by kernel_rfl) (by rfl) (fun K hK => ?_)
              simp only [List.getElem_toArray, List.getElem_cons_zero, List.getElem_cons_succ, Act.put, List.setIfInBounds_toArray, List.set_cons_zero, List.set_cons_succ] at hK ⊢
              refine wp_store_mid 37 (.tmp 64) (.tmp 62) rfl gq (q * 6) (row6 (gp M ki)).toArray rfl rfl T2 rfl (row6_all _) ?_
              refine hK.out _ _ ?_
              clear hK K
              rw [show (row6 (gp M ki)).toArray.toList = row6 (gp M ki) from rfl]
              obtain ⟨wz, hwz⟩ : ∃ z, z = wy.setCells gq (q * 6) (row6 (gp M ki)) := ⟨_, rfl⟩
              rw [← hwz]
              replace hwz := Lib.hid hwz
              try simp only [Act.put, List.setIfInBounds_toArray, List.set_cons_zero, List.set_cons_succ]
              refine Inv.done (by kernel_rfl) (NoPanic.normal ?_)
              have SZ : Hid (Sw w7 gq w5.heap.size nl cq wz L (swp M ki q)) := Lib.hid (by rw [hwz.out, hwy.out]; exact S9.out.swap (by rw [hMl.out]; exact hkn) (by rw [hMl.out]; exact hqn) hw)
              clear hd e48 e49 e57 e62 T1 T2 hwz hwy
              go_wp2_with fail
              go_roundw
              case rel => exact ⟨ki + 1, swp M ki q, by go_num, by omega, SZ⟩
              case measure => simp [intOf]; omega
            · simp only [List.getElem_toArray, List.getElem_cons_zero, List.getElem_cons_succ, Act.put, List.setIfInBounds_toArray, List.set_cons_zero, List.set_cons_succ] at hK ⊢
              refine wp_store_mid 37 (.tmp 63) (.tmp 57) rfl gq (ki * 6) (row6 (gp M q)).toArray rfl rfl T1 rfl (row6_all _) ?_
              refine hK.out _ _ ?_
              clear hK K
              rw [show (row6 (gp M q)).toArray.toList = row6 (gp M q) from rfl]
              obtain ⟨wy, hwy⟩ : ∃ z, z = wx.setCells gq (ki * 6) (row6 (gp M q)) := ⟨_, rfl⟩
              rw [← hwy]
              replace hwy := Lib.hid hwy
              try simp only [Act.put, List.setIfInBounds_toArray, List.set_cons_zero, List.set_cons_succ]
              refine Inv.one (i := 4) (by decide) (by kernel_rfl) (by rfl) (fun K hK => ?_)
              simp only [List.getElem_toArray, List.getElem_cons_zero, List.getElem_cons_succ, Act.put, List.setIfInBounds_toArray, List.set_cons_zero, List.set_cons_succ] at hK ⊢
              have hc9 : wy.cell? ⟨p7, 9, none⟩ = some (.slice (some ⟨gq, 0, none⟩) nl cq) := by rw [hwy.out]; exact CK.out _ hw
              go_simp
              refine hK.out _ _ ?_
              clear hK K hc9
              try simp only [Act.put, List.setIfInBounds_toArray, List.set_cons_zero, List.set_cons_succ]
              refine Inv.take (i := 18) (v := .pointer (some ⟨gq, q * 6, none⟩)) (by decide) rfl (by kernel_rfl) (by kernel_rfl) (by kernel_rfl) (fun _ _ _ h => h) (by rfl) (fun w' => ?_) ?_
              · simp only [List.getElem_toArray, List.getElem_cons_zero, List.getElem_cons_succ]
                go_simp
              try simp only [Act.put, List.setIfInBounds_toArray, List.set_cons_zero, List.set_cons_succ]
              have T2 : wy.there gq (q * 6) 6 := by rw [hwy.out]; exact TQ.out _ hw
              refine Inv.one (i := 19) (by decide) (by kernel_rfl) (by rfl) (fun K hK => ?_)
              simp only [List.getElem_toArray, List.getElem_cons_zero, List.getElem_cons_succ, Act.put, List.setIfInBounds_toArray, List.set_cons_zero, List.set_cons_succ] at hK ⊢
              refine wp_store_mid 37 (.tmp 64) (.tmp 62) rfl gq (q * 6) (row6 (gp M ki)).toArray rfl rfl T2 rfl (row6_all _) ?_
              refine hK.out _ _ ?_
              clear hK K
              rw [show (row6 (gp M ki)).toArray.toList = row6 (gp M ki) from rfl]
              obtain ⟨wz, hwz⟩ : ∃ z, z = wy.setCells gq (q * 6) (row6 (gp M ki)) := ⟨_, rfl⟩
              rw [← hwz]
              replace hwz := Lib.hid hwz
              try simp only [Act.put, List.setIfInBounds_toArray, List.set_cons_zero, List.set_cons_succ]
              refine Inv.done (by kernel_rfl) (NoPanic.normal ?_)
              have SZ : Hid (Sw w7 gq w5.heap.size nl cq wz L (swp M ki q)) := Lib.hid (by rw [hwz.out, hwy.out]; exact S9.out.swap (by rw [hMl.out]; exact hkn) (by rw [hMl.out]; exact hqn) hw)
              clear hd e48 e49 e57 e62 T1 T2 hwz hwy
              go_wp2_with fail
              go_roundw
              case rel => exact ⟨ki + 1, swp M ki q, by go_num, by omega, SZ⟩
              case measure => simp [intOf]; omega
          · obtain e48 : (σ 48) = .slice (some ⟨gq, 0, none⟩) nl cq := hd 1 (some 48) (by kernel_rfl) (fun h => absurd h (by decide)) (fun h => absurd h (by decide)) (fun h => absurd h (by decide)) (by rfl)
            obtain e49 : (σ 49) = .int .i64 (ki : Int) := hd 2 (some 49) (by kernel_rfl) (fun h => absurd h (by decide)) (fun h => absurd h (by decide)) (fun h => absurd h (by decide)) (by rfl)
            obtain e57 : (σ 57) = .agg (row6 (gp M q)).toArray := hd 10 (some 57) (by kernel_rfl) (fun h => absurd h (by decide)) (fun h => absurd h (by decide)) (fun h => absurd h (by decide)) (by rfl)
            obtain e62 : (σ 62) = .agg (row6 (gp M ki)).toArray := hd 15 (some 62) (by kernel_rfl) (fun h => absurd h (by decide)) (fun h => absurd h (by decide)) (fun h => absurd h (by decide)) (by rfl)
            obtain e51 : (σ 51) = .slice (some ⟨gq, 0, none⟩) nl cq := hd 4 (some 51) (by kernel_rfl) (fun h => absurd h (by decide)) (fun _ => rfl) (fun h => absurd h (by decide)) (by rfl)
            simp only [e48, e49, e57, e62, e51]
            refine Inv.take (i := 5) (v := .int .i64 (q : Int)) (by decide) rfl (by kernel_rfl) (by kernel_rfl) (by kernel_rfl) (fun _ _ _ h => h) (by rfl) (fun w' => ?_) ?_
            · simp only [List.getElem_toArray, List.getElem_cons_zero, List.getElem_cons_succ]
              go_simp
            try simp only [Act.put, List.setIfInBounds_toArray, List.set_cons_zero, List.set_cons_succ]
            refine Inv.take (i := 16) (v := .pointer (some ⟨gq, ki * 6, none⟩)) (by decide) rfl (by kernel_rfl) (by kernel_rfl) (by kernel_rfl) (fun _ _ _ h => h) (by rfl) (fun w' => ?_) ?_
            · simp only [List.getElem_toArray, List.getElem_cons_zero, List.getElem_cons_succ]
              go_simp
            try simp only [Act.put, List.setIfInBounds_toArray, List.set_cons_zero, List.set_cons_succ]
            have T1 := TK.out _ hw
            refine Inv.one (i := 17) (by decide) (by kernel_rfl) (by rfl) (fun K hK => ?_)
            simp only [List.getElem_toArray, List.getElem_cons_zero, List.getElem_cons_succ, Act.put, List.setIfInBounds_toArray, List.set_cons_zero, List.set_cons_succ] at hK ⊢
            refine wp_store_mid 37 (.tmp 63) (.tmp 57) rfl gq (ki * 6) (row6 (gp M q)).toArray rfl rfl T1 rfl (row6_all _) ?_
            refine hK.out _ _ ?_
            clear hK K
            rw [show (row6 (gp M q)).toArray.toList = row6 (gp M q) from rfl]
            obtain ⟨wy, hwy⟩ : ∃ z, z = wx.setCells gq (ki * 6) (row6 (gp M q)) := ⟨_, rfl⟩
            rw [← hwy]
            replace hwy := Lib.hid hwy
            try simp only [Act.put, List.setIfInBounds_toArray, List.set_cons_zero, List.set_cons_succ]
            refine Inv.take (i := 18) (v := .pointer (some ⟨gq, q * 6, none⟩)) (by decide) rfl (by kernel_rfl) (by kernel_rfl) (by kernel_rfl) (fun _ _ _ h => h) (by rfl) (fun w' => ?_) ?_
            · simp only [List.getElem_toArray, List.getElem_cons_zero, List.getElem_cons_succ]
              go_simp
            try simp only [Act.put, List.setIfInBounds_toArray, List.set_cons_zero, List.set_cons_succ]
            have T2 : wy.there gq (q * 6) 6 := by rw [hwy.out]; exact TQ.out _ hw
            refine Inv.one (i := 19) (by decide) (by kernel_rfl) (by rfl) (fun K hK => ?_)
            simp only [List.getElem_toArray, List.getElem_cons_zero, List.getElem_cons_succ, Act.put, List.setIfInBounds_toArray, List.set_cons_zero, List.set_cons_succ] at hK ⊢
            refine wp_store_mid 37 (.tmp 64) (.tmp 62) rfl gq (q * 6) (row6 (gp M ki)).toArray rfl rfl T2 rfl (row6_all _) ?_
            refine hK.out _ _ ?_
            clear hK K
            rw [show (row6 (gp M ki)).toArray.toList = row6 (gp M ki) from rfl]
            obtain ⟨wz, hwz⟩ : ∃ z, z = wy.setCells gq (q * 6) (row6 (gp M ki)) := ⟨_, rfl⟩
            rw [← hwz]
            replace hwz := Lib.hid hwz
            try simp only [Act.put, List.setIfInBounds_toArray, List.set_cons_zero, List.set_cons_succ]
            refine Inv.done (by kernel_rfl) (NoPanic.normal ?_)
            have SZ : Hid (Sw w7 gq w5.heap.size nl cq wz L (swp M ki q)) := Lib.hid (by rw [hwz.out, hwy.out]; exact S9.out.swap (by rw [hMl.out]; exact hkn) (by rw [hMl.out]; exact hqn) hw)
            clear hd e48 e49 e57 e62 T1 T2 hwz hwy
            go_wp2_with fail
            go_roundw
            case rel => exact ⟨ki + 1, swp M ki q, by go_num, by omega, SZ⟩
            case measure => simp [intOf]; omega
          · obtain e48 : (σ 48) = .slice (some ⟨gq, 0, none⟩) nl cq := hd 1 (some 48) (by kernel_rfl) (fun h => absurd h (by decide)) (fun h => absurd h (by decide)) (fun h => absurd h (by decide)) (by rfl)
            obtain e49 : (σ 49) = .int .i64 (ki : Int) := hd 2 (some 49) (by kernel_rfl) (fun h => absurd h (by decide)) (fun h => absurd h (by decide)) (fun h => absurd h (by decide)) (by rfl)
            obtain e57 : (σ 57) = .agg (row6 (gp M q)).toArray := hd 10 (some 57) (by kernel_rfl) (fun h => absurd h (by decide)) (fun h => absurd h (by decide)) (fun h => absurd h (by decide)) (by rfl)
            obtain e62 : (σ 62) = .agg (row6 (gp M ki)).toArray := hd 15 (some 62) (by kernel_rfl) (fun h => absurd h (by decide)) (fun h => absurd h (by decide)) (fun h => absurd h (by decide)) (by rfl)
            obtain e51 : (σ 51) = .slice (some ⟨gq, 0, none⟩) nl cq := hd 4 (some 51) (by kernel_rfl) (fun h => absurd h (by decide)) (fun _ => rfl) (fun h => absurd h (by decide)) (by rfl)
            obtain e52 : (σ 52) = .int .i64 (q : Int) := hd 5 (some 52) (by kernel_rfl) (fun h => absurd h (by decide)) (fun h => absurd h (by decide)) (fun _ => rfl) (by rfl)
            simp only [e48, e49, e57, e62, e51, e52]
            refine Inv.take (i := 16) (v := .pointer (some ⟨gq, ki * 6, none⟩)) (by decide) rfl (by kernel_rfl) (by kernel_rfl) (by kernel_rfl) (fun _ _ _ h => h) (by rfl) (fun w' => ?_) ?_
            · simp only [List.getElem_toArray, List.getElem_cons_zero, List.getElem_cons_succ]
              go_simp
            try simp only [Act.put, List.setIfInBounds_toArray, List.set_cons_zero, List.set_cons_succ]
            have T1 := TK.out _ hw
            refine Inv.one (i := 17) (by decide) (by kernel_rfl) (by rfl) (fun K hK => ?_)
            simp only [List.getElem_toArray, List.getElem_cons_zero, List.getElem_cons_succ, Act.put, List.setIfInBounds_toArray, List.set_cons_zero, List.set_cons_succ] at hK ⊢
            refine wp_store_mid 37 (.tmp 63) (.tmp 57) rfl gq (ki * 6) (row6 (gp M q)).toArray rfl rfl T1 rfl (row6_all _) ?_
            refine hK.out _ _ ?_
            clear hK K
            rw [show (row6 (gp M q)).toArray.toList = row6 (gp M q) from rfl]
            obtain ⟨wy, hwy⟩ : ∃ z, z = wx.setCells gq (ki * 6) (row6 (gp M q)) := ⟨_, rfl⟩
            rw [← hwy]
            replace hwy := Lib.hid hwy
            try simp only [Act.put, List.setIfInBounds_toArray, List.set_cons_zero, List.set_cons_succ]
            refine Inv.take (i := 18) (v := .pointer (some ⟨gq, q * 6, none⟩)) (by decide) rfl (by kernel_rfl) (by kernel_rfl) (by kernel_rfl) (fun _ _ _ h => h) (by rfl) (fun w' => ?_) ?_
            · simp only [List.getElem_toArray, List.getElem_cons_zero, List.getElem_cons_succ]
              go_simp
            try simp only [Act.put, List.setIfInBounds_toArray, List.set_cons_zero, List.set_cons_succ]
            have T2 : wy.there gq (q * 6) 6 := by rw [hwy.out]; exact TQ.out _ hw
            refine Inv.one (i := 19) (by decide) (by kernel_rfl) (by rfl) (fun K hK => ?_)
            simp only [List.getElem_toArray, List.getElem_cons_zero, List.getElem_cons_succ, Act.put, List.setIfInBounds_toArray, List.set_cons_zero, List.set_cons_succ] at hK ⊢
            refine wp_store_mid 37 (.tmp 64) (.tmp 62) rfl gq (q * 6) (row6 (gp M ki)).toArray rfl rfl T2 rfl (row6_all _) ?_
            refine hK.out _ _ ?_
            clear hK K
            rw [show (row6 (gp M ki)).toArray.toList = row6 (gp M ki) from rfl]
            obtain ⟨wz, hwz⟩ : ∃ z, z = wy.setCells gq (q * 6) (row6 (gp M ki)) := ⟨_, rfl⟩
            rw [← hwz]
            replace hwz := Lib.hid hwz
            try simp only [Act.put, List.setIfInBounds_toArray, List.set_cons_zero, List.set_cons_succ]
            refine Inv.done (by kernel_rfl) (NoPanic.normal ?_)
            have SZ : Hid (Sw w7 gq w5.heap.size nl cq wz L (swp M ki q)) := Lib.hid (by rw [hwz.out, hwy.out]; exact S9.out.swap (by rw [hMl.out]; exact hkn) (by rw [hMl.out]; exact hqn) hw)
            clear hd e48 e49 e57 e62 T1 T2 hwz hwy
            go_wp2_with fail
            go_roundw
            case rel => exact ⟨ki + 1, swp M ki q, by go_num, by omega, SZ⟩
            case measure => simp [intOf]; omega
      · have k2 : ¬ ((ki : Int) < (len1 : Int)) := by omega
        go_wp2_with fail
        go_roundw
        case rel => exact ⟨ki + 1, M, by go_num, by omega, SWh⟩
        case measure => simp [intOf]; omega
    · obtain rfl : nl = ki := by omega
      have q0 := PG.out.m1
      have q00 := PG.out.m2
      have q01 := PG.out.gB
      have PB := (Mis.phR_of_own SWh.out.own)
      go_wp2_with fail
      refine (Src.n_any 40 DW.out (by decide) (by decide)).mono ?_
      rintro e w10 ⟨⟨tol, rfl, t0, t9⟩, hl⟩
      have K10 := Lib.hid (blk_far KP.out hl.far (by omega))
      have K10q := Lib.hid (blk_far KQ.out hl.far (by omega))
      have D10 := Lib.hid hl.di
      have WW := Lib.hid (wide_far (wide_far W7.out FW.out (by omega) (by omega)) hl.far (by omega) (by omega))
      have RW := Lib.hid ((R7.out.kept (FW.out.block gp0 R7.out.1 (fun e => by cases e; omega)) FW.out.size).kept (hl.far.block gp0 (Nat.lt_of_lt_of_le R7.out.1 FW.out.size) (fun e => by cases e; omega)) hl.far.size)
      have RQ := Lib.hid (PB.1.kept (hl.far.block gq PB.1.1 (fun e => by cases e; omega)) hl.far.size)
      have pm := Lib.hid SWh.out.perm
      have hR := PG.out.rg (by decide)
      obtain ⟨SP, hSP⟩ := spl_of (R := ⟨a1, a2, a3, d1, d2, d3⟩) hR.bv
      have n9 : L.length ≤ 64 := by have := PG.out.n9; omega
      have c9 : cp ≤ 2000 := by have := PG.out.c9; omega
      have c0 := PG.out.c0
      have rv : Sb ⟨a1, a2, a3, d1, d2, d3⟩ ⟨a1, a2, a3, d1, d2, d3⟩ := ⟨Int.le_refl _, Int.le_refl _, Int.le_refl _, Int.le_refl _, Int.le_refl _, Int.le_refl _, hR.bv.x, hR.bv.y, hR.bv.z⟩
      have few := few_of 5 (by decide) rv PG.out.s1 PG.out.s2 PG.out.s3
      have phs := PG.out.ph.s
      have n1 := PG.out.n1
      have PF := fun (w' : World) (h' : w10.grownBy w' (some w.heap.size)) => pr_of (R := ⟨a1, a2, a3, d1, d2, d3⟩) hR (wide_far WW.out h' (by omega) (by omega)) phs n1 n9 c0 c9 (RW.out.kept (h'.block gp0 RW.out.1 (fun e => by cases e; omega)) h'.size) hnl.out hle c1 c2 hSP few
      have QF := fun (w' : World) (h' : w10.grownBy w' (some w.heap.size)) => pr_of (R := ⟨a1, a2, a3, d1, d2, d3⟩) hR (wide_far WW.out h' (by omega) (by omega)) (all_perm pm.out.symm phs) (by rw [hMl.out]; exact hn1) (by rw [hMl.out]; omega) c0 c9 (RQ.out.kept (h'.block gq RQ.out.1 (fun e => by cases e; omega)) h'.size) hMl.out.symm q1 c1 c2 hSP few
      have MP := mf_perm s lo hi cp pm.out.symm (by rw [← hnl.out]; exact hn1)
      have HM := mono_of (R := ⟨a1, a2, a3, d1, d2, d3⟩) hR WW.out phs n1 c0
      rw [MP.1, MP.2] at QF
      obtain ⟨Ak, hAk⟩ : ∃ z : Loc.Ask, z = ⟨Fm s lo hi cp L, Gm s lo hi cp L, SP⟩ := ⟨_, rfl⟩
      rw [← hAk] at PF QF
      have P0 := PF w10 (grown_low (Below.refl _ _))
      have FA := fin_all P0 tol t0 (by rw [hAk]; exact HM)
      have TK := fun tol2 (h2 : tol ≤ tol2) => (run_tk P0.good h2 3000 _ (start_inv P0.good)).2
      obtain ⟨FN, hFN⟩ : ∃ z, z = fin Ak ⟨a1, a2, a3, d1, d2, d3⟩ tol := ⟨_, rfl⟩
      obtain ⟨AA, hAA⟩ : ∃ z, z = areaF FN.m (pb (FN.x, FN.y, FN.z)) FN.op := ⟨_, rfl⟩
      obtain ⟨lw, hlw⟩ : ∃ z, z = lowF FN.m FN.op := ⟨_, rfl⟩
      have LP := fun (w' : World) (h' : w10.grownBy w' (some w.heap.size)) => locate_any (PF w' h') tol t0 (by omega) FA.1 FA.2.1
      have LQ := fun (w' : World) (h' : w10.grownBy w' (some w.heap.size)) => locate_any (QF w' h') tol t0 (by omega) FA.1 FA.2.1
      have BP := fun (w' : World) (h' : w10.grownBy w' (some w.heap.size)) => boxes_any (PF w' h') tol t0 (by omega)
      rw [← hFN] at LP LQ BP
      rw [← hAA, ← hlw] at LP LQ
      obtain ⟨tk1, htk1⟩ : ∃ z, z = FN.tk := ⟨_, rfl⟩
      rw [← htk1] at BP
      have BQ := fun (w' : World) (h' : w10.grownBy w' (some w.heap.size)) (tol2 : Int) (g1 : tol ≤ tol2) (g2 : tol2 ≤ 1000) => And.intro (show (fin Ak ⟨a1, a2, a3, d1, d2, d3⟩ tol2).tk ≤ tk1 by rw [htk1, hFN]; exact TK tol2 g1) (boxes_any (PF w' h') tol2 (by omega) (by omega))
      replace LP := Lib.hid LP
      replace LQ := Lib.hid LQ
      replace BP := Lib.hid BP
      replace BQ := Lib.hid BQ
      have BX : Hid (Below w10.heap.size w10 w10) := Lib.hid (Below.refl _ _)
      clear hl KP KQ DW W7 R7 FW K7 K7q O7 D7 SWh pm hR hSP n9 c9 c0 rv few phs n1 PF QF MP HM hAk P0 FA TK hFN hAA hlw htk1 WW RW RQ PB
      go_upto_region 14 with (first | ((with_reducible refine Mid.ldr 33 (.tmp 6) p6 33 #[.int .i64 a1, .int .i64 a2, .int .i64 a3, .int .i64 d1, .int .i64 d2, .int .i64 d3, .int .i64 s, .slice (some ⟨b1, 0, none⟩) n c1, .slice (some ⟨b2, 0, none⟩) n c2, .slice (some ⟨gp0, 0, none⟩) nl cpp, .int .i64 cp] (Mis.hb BX.out K10.out) ?_ ?_ ?_ ?_ ?_ ?_); (· rfl); (· rfl); (· first | rfl | simp [Act.eval]); (· exact ⟨_, rfl, rfl⟩); (· kernel_rfl)) | (go_at_call 18; refine (LP.out _ (grown_low BX.out)).mono ?_; rintro e w11 ⟨rfl, bb⟩; replace BX := Lib.hid (Buf.then_ BX.out bb); clear bb) | ((with_reducible refine Mid.str 40 (.tmp 11) (.tmp 72) w11.heap.size 40 #[.int .i64 0, .int .i64 0, .int .i64 0, .int .i64 0, .int .i64 0, .int .i64 0, .int .i64 0, .int .i64 0, .int .i64 0, .int .i64 0, .int .i64 0, .int .i64 0] (lrow FN lw AA).toArray (heap_alloc_new w11 _) ?_ ?_ ?_ ?_ ?_ ?_ ?_ ?_); (· rfl); (· rfl); (· first | rfl | simp [Act.eval]); (· first | rfl | simp [Act.eval]); (· kernel_rfl); (· rfl); (· simp [lrow, Value.oneCell'])))
      try simp only [Act.put]
      have NN : Below w11.heap.size w11 ((w11.alloc (.cells #[.int .i64 0, .int .i64 0, .int .i64 0, .int .i64 0, .int .i64 0, .int .i64 0, .int .i64 0, .int .i64 0, .int .i64 0, .int .i64 0, .int .i64 0, .int .i64 0] 40)).setRow w11.heap.size (lrow FN lw AA).toArray) := Mid.below_row (Mis.new_block _) _ _ (Nat.le_refl _)
      have K12 := Lib.hid (show ((w11.alloc (.cells #[.int .i64 0, .int .i64 0, .int .i64 0, .int .i64 0, .int .i64 0, .int .i64 0, .int .i64 0, .int .i64 0, .int .i64 0, .int .i64 0, .int .i64 0, .int .i64 0] 40)).setRow w11.heap.size (lrow FN lw AA).toArray).heap[w11.heap.size]? = some (.cells (lrow FN lw AA).toArray 40 (0, 0)) from setRow_heap _ _ _ _ _ _ (heap_alloc_new w11 _))
      obtain ⟨w12, hw12⟩ : ∃ z, z = (w11.alloc (.cells #[.int .i64 0, .int .i64 0, .int .i64 0, .int .i64 0, .int .i64 0, .int .i64 0, .int .i64 0, .int .i64 0, .int .i64 0, .int .i64 0, .int .i64 0, .int .i64 0] 40)).setRow w11.heap.size (lrow FN lw AA).toArray := ⟨_, rfl⟩
      rw [← hw12] at NN K12 ⊢
      obtain ⟨p11, hp11⟩ : ∃ z, z = w11.heap.size := ⟨_, rfl⟩
      have p11g : w.heap.size ≠ p11 := by have := BX.out.size; have := D10.out.lt; omega
      rw [← hp11] at K12 ⊢
      replace BX := Lib.hid (Buf.then_ BX.out NN)
      clear hw12 hp11 NN
      go_upto_region 15 with (first | ((with_reducible refine Mid.ldr 33 (.tmp 7) p7 33 #[.int .i64 a1, .int .i64 a2, .int .i64 a3, .int .i64 d1, .int .i64 d2, .int .i64 d3, .int .i64 s, .slice (some ⟨b1, 0, none⟩) n c1, .slice (some ⟨b2, 0, none⟩) n c2, .slice (some ⟨gq, 0, none⟩) nl cq, .int .i64 cp] (Mis.hb BX.out K10q.out) ?_ ?_ ?_ ?_ ?_ ?_); (· rfl); (· rfl); (· first | rfl | simp [Act.eval]); (· exact ⟨_, rfl, rfl⟩); (· kernel_rfl)) | (go_at_call 18; refine (LQ.out _ (grown_low BX.out)).mono ?_; rintro e w13 ⟨rfl, bb⟩; replace BX := Lib.hid (Buf.then_ BX.out bb); replace K12 := Lib.hid (Mis.hb bb K12.out); clear bb) | ((with_reducible refine Mid.str 40 (.tmp 13) (.tmp 78) w13.heap.size 40 #[.int .i64 0, .int .i64 0, .int .i64 0, .int .i64 0, .int .i64 0, .int .i64 0, .int .i64 0, .int .i64 0, .int .i64 0, .int .i64 0, .int .i64 0, .int .i64 0] (lrow FN lw AA).toArray (heap_alloc_new w13 _) ?_ ?_ ?_ ?_ ?_ ?_ ?_ ?_); (· rfl); (· rfl); (· first | rfl | simp [Act.eval]); (· first | rfl | simp [Act.eval]); (· kernel_rfl); (· rfl); (· simp [lrow, Value.oneCell'])))
      try simp only [Act.put]
      have NN : Below w13.heap.size w13 ((w13.alloc (.cells #[.int .i64 0, .int .i64 0, .int .i64 0, .int .i64 0, .int .i64 0, .int .i64 0, .int .i64 0, .int .i64 0, .int .i64 0, .int .i64 0, .int .i64 0, .int .i64 0] 40)).setRow w13.heap.size (lrow FN lw AA).toArray) := Mid.below_row (Mis.new_block _) _ _ (Nat.le_refl _)
      have K14 := Lib.hid (show ((w13.alloc (.cells #[.int .i64 0, .int .i64 0, .int .i64 0, .int .i64 0, .int .i64 0, .int .i64 0, .int .i64 0, .int .i64 0, .int .i64 0, .int .i64 0, .int .i64 0, .int .i64 0] 40)).setRow w13.heap.size (lrow FN lw AA).toArray).heap[w13.heap.size]? = some (.cells (lrow FN lw AA).toArray 40 (0, 0)) from setRow_heap _ _ _ _ _ _ (heap_alloc_new w13 _))
      obtain ⟨w14, hw14⟩ : ∃ z, z = (w13.alloc (.cells #[.int .i64 0, .int .i64 0, .int .i64 0, .int .i64 0, .int .i64 0, .int .i64 0, .int .i64 0, .int .i64 0, .int .i64 0, .int .i64 0, .int .i64 0, .int .i64 0] 40)).setRow w13.heap.size (lrow FN lw AA).toArray := ⟨_, rfl⟩
      rw [← hw14] at NN K14 ⊢
      obtain ⟨p13, hp13⟩ : ∃ z, z = w13.heap.size := ⟨_, rfl⟩
      have p13g : w.heap.size ≠ p13 := by have := BX.out.size; have := D10.out.lt; omega
      rw [← hp13] at K14 ⊢
      replace BX := Lib.hid (Buf.then_ BX.out NN)
      replace K12 := Lib.hid (Mis.hb NN K12.out)
      clear hw14 hp13 NN
      go_upto_region 16 with (first | ((with_reducible refine Mid.ldr 33 (.tmp 6) p6 33 #[.int .i64 a1, .int .i64 a2, .int .i64 a3, .int .i64 d1, .int .i64 d2, .int .i64 d3, .int .i64 s, .slice (some ⟨b1, 0, none⟩) n c1, .slice (some ⟨b2, 0, none⟩) n c2, .slice (some ⟨gp0, 0, none⟩) nl cpp, .int .i64 cp] (Mis.hb BX.out K10.out) ?_ ?_ ?_ ?_ ?_ ?_); (· rfl); (· rfl); (· first | rfl | simp [Act.eval]); (· exact ⟨_, rfl, rfl⟩); (· kernel_rfl)) | (go_at_call 19; refine (BP.out _ (grown_low BX.out)).mono ?_; rintro e w15 ⟨rfl, bb⟩; replace BX := Lib.hid (Buf.then_ BX.out bb); replace K12 := Lib.hid (Mis.hb bb K12.out); replace K14 := Lib.hid (Mis.hb bb K14.out); clear bb))
      have KX := Lib.hid (Mis.hb BX.out K10.out)
      have GX := Lib.hid (grown_low (r := some w.heap.size) BX.out)
      have D15 := Lib.hid (D10.out.below BX.out)
      have hw0 : Src.Left w w15 w15.drew w.heap.size a0 m cap0 z0 := (Src.Left.refl D15.out).below ((Below.refl _ _).drew)
      clear LP LQ BP K10 K10q
      refine wp_region_noPanic ?_
      refine wp_region_any (by kernel_rfl) ?_
      refine Inv.wpAny_inv (fun k => k == 5 || k == 6 || k == 7 || k == 8 || k == 9 || k == 10) [87, 88, 89, 90, 91] (fun w' => Src.Left w w15 w' w.heap.size a0 m cap0 z0) (fun _ w1 w2 => Src.Left w w1 w2 w.heap.size a0 m cap0 z0) (fun k => ([fun v_ w_ => v_ = .agg #[.int .i64 a1, .int .i64 a2, .int .i64 a3, .int .i64 d1, .int .i64 d2, .int .i64 d3, .int .i64 s, .slice (some ⟨b1, 0, none⟩) n c1, .slice (some ⟨b2, 0, none⟩) n c2, .slice (some ⟨gp0, 0, none⟩) nl cpp, .int .i64 cp], fun v_ w_ => v_ = .int .i64 tol, fun v_ w_ => v_ = .pointer (some ⟨w.heap.size, 0, none⟩), fun v_ w_ => ∃ t2 : Int, v_ = .int .i64 t2 ∧ 0 ≤ t2 ∧ t2 < 50, fun v_ w_ => ∃ t2 : Int, v_ = .int .i64 (tol + t2) ∧ 0 ≤ t2 ∧ t2 < 50, fun v_ w_ => True, fun v_ w_ => True, fun v_ w_ => True, fun v_ w_ => True, fun v_ w_ => True, fun v_ w_ => True] : List (Value → World → Prop)).getD k (fun _ _ => True)) _ (fun σ => by simp only [Inv.putAll, List.foldl_cons, List.foldl_nil, Act.put, List.setIfInBounds_toArray, List.set_cons_zero, List.set_cons_succ]; rfl) (by kernel_rfl) (by kernel_rfl) ?_ hw0 ?_ ?_ 6 #[true, true, true, true, true, false, false, false, false, false, false] (by kernel_rfl) (by kernel_rfl) ?_
      · intro j k v w1 w2 hjk hv hr
        rcases k with _ | k
        · exact hv
        rcases k with _ | k
        · exact hv
        rcases k with _ | k
        · exact hv
        rcases k with _ | k
        · exact hv
        rcases k with _ | k
        · exact hv
        rcases k with _ | k
        · exact hv
        rcases k with _ | k
        · exact hv
        rcases k with _ | k
        · exact hv
        rcases k with _ | k
        · exact hv
        rcases k with _ | k
        · exact hv
        rcases k with _ | k
        · exact hv
        · exact hv
      · intro k t hl hd
        rcases k with _ | k
        · exact absurd hl (by decide +kernel)
        rcases k with _ | k
        · exact absurd hl (by decide +kernel)
        rcases k with _ | k
        · exact absurd hl (by decide +kernel)
        rcases k with _ | k
        · exact absurd hl (by decide +kernel)
        rcases k with _ | k
        · exact absurd hl (by decide +kernel)
        rcases k with _ | k
        · exact absurd hl (by decide +kernel)
        rcases k with _ | k
        · exact absurd hl (by decide +kernel)
        rcases k with _ | k
        · exact absurd hl (by decide +kernel)
        rcases k with _ | k
        · exact absurd hl (by decide +kernel)
        rcases k with _ | k
        · exact absurd hl (by decide +kernel)
        rcases k with _ | k
        · exact absurd hl (by decide +kernel)
        · simp at hd
      · show Inv.Steps _ _ _ _ _ _ _ _ [0, 1, 2, 3, 4]
        refine Inv.Steps.go (by decide) (by rfl) (fun σ wx hw hd K hK => ?_) ?_
        · simp only [List.getElem_toArray, List.getElem_cons_zero, List.getElem_cons_succ, Act.put, List.setIfInBounds_toArray, List.set_cons_zero, List.set_cons_succ] at hK ⊢
          refine wp_load_row 33 (.tmp 6) rfl p6 rfl 33 #[.int .i64 a1, .int .i64 a2, .int .i64 a3, .int .i64 d1, .int .i64 d2, .int .i64 d3, .int .i64 s, .slice (some ⟨b1, 0, none⟩) n c1, .slice (some ⟨b2, 0, none⟩) n c2, .slice (some ⟨gp0, 0, none⟩) nl cpp, .int .i64 cp] (0, 0) _ (blk_far KX.out hw.far (by omega)) rfl rfl rfl ?_
          simp only [Act.put, List.setIfInBounds_toArray, List.set_cons_zero, List.set_cons_succ]
          exact hK.out _ _ hw (Src.Left.refl hw.di) (rfl)
        refine Inv.Steps.go (by decide) (by rfl) (fun σ wx hw hd K hK => ?_) ?_
        · simp only [List.getElem_toArray, List.getElem_cons_zero, List.getElem_cons_succ, Act.put, List.setIfInBounds_toArray, List.set_cons_zero, List.set_cons_succ] at hK ⊢
          go_simp
          exact hK.out _ _ hw (Src.Left.refl hw.di) (rfl)
        refine Inv.Steps.go (by decide) (by rfl) (fun σ wx hw hd K hK => ?_) ?_
        · simp only [List.getElem_toArray, List.getElem_cons_zero, List.getElem_cons_succ, Act.put, List.setIfInBounds_toArray, List.set_cons_zero, List.set_cons_succ] at hK ⊢
          go_simp
          exact hK.out _ _ hw (Src.Left.refl hw.di) (rfl)
        refine Inv.Steps.go (by decide) (by rfl) (fun σ wx hw hd K hK => ?_) ?_
        · obtain e89 : (σ 89) = .pointer (some ⟨w.heap.size, 0, none⟩) := hd 2 (some 89) (by kernel_rfl) (by rfl)
          simp only [List.getElem_toArray, List.getElem_cons_zero, List.getElem_cons_succ, Act.put, List.setIfInBounds_toArray, List.set_cons_zero, List.set_cons_succ, e89] at hK ⊢
          go_simp
          go_at_call 17
          refine (Src.n_any 50 hw.di (by decide) (by decide)).mono ?_
          rintro e w1 ⟨⟨t2, rfl, u0, u9⟩, hl⟩
          dsimp only
          exact hK.out _ _ (hw.trans hl) hl (⟨t2, rfl, u0, u9⟩)
        refine Inv.Steps.go (by decide) (by rfl) (fun σ wx hw hd K hK => ?_) ?_
        · obtain e88 : (σ 88) = .int .i64 tol := hd 1 (some 88) (by kernel_rfl) (by rfl)
          obtain ⟨t2, e90, u0, u9⟩ : ∃ t2 : Int, (σ 90) = .int .i64 t2 ∧ 0 ≤ t2 ∧ t2 < 50 := hd 3 (some 90) (by kernel_rfl) (by rfl)
          simp only [List.getElem_toArray, List.getElem_cons_zero, List.getElem_cons_succ, Act.put, List.setIfInBounds_toArray, List.set_cons_zero, List.set_cons_succ, e88, e90] at hK ⊢
          have hx := IntWalk.i64_in (tol + t2) (by omega)
          go_simp
          exact hK.out _ _ hw (Src.Left.refl hw.di) (⟨t2, rfl, u0, u9⟩)
        exact Inv.Steps.nil
      · intro σ wx hw hd
        obtain e87 : (σ 87) = .agg #[.int .i64 a1, .int .i64 a2, .int .i64 a3, .int .i64 d1, .int .i64 d2, .int .i64 d3, .int .i64 s, .slice (some ⟨b1, 0, none⟩) n c1, .slice (some ⟨b2, 0, none⟩) n c2, .slice (some ⟨gp0, 0, none⟩) nl cpp, .int .i64 cp] := hd 0 (some 87) (by rfl) (by rfl)
        obtain ⟨t2, e91, u0, u9⟩ : ∃ t2 : Int, (σ 91) = .int .i64 (tol + t2) ∧ 0 ≤ t2 ∧ t2 < 50 := hd 4 (some 91) (by rfl) (by rfl)
        obtain ⟨htk, BC⟩ := BQ.out wx (GX.out.trans hw.far) (tol + t2) (by omega) (by omega)
        generalize (fin Ak ⟨a1, a2, a3, d1, d2, d3⟩ (tol + t2)).tk = tk2 at htk BC
        replace BC := Lib.hid BC
        simp only [e87, e91]
        refine Inv.one (i := 5) (by decide) (by kernel_rfl) (by rfl) (fun K hK => ?_)
        simp only [List.getElem_toArray, List.getElem_cons_zero, List.getElem_cons_succ, Act.put, List.setIfInBounds_toArray, List.set_cons_zero, List.set_cons_succ] at hK ⊢
        go_simp
        go_at_call 19
        refine BC.out.mono ?_
        rintro e w16 ⟨rfl, b16⟩
        dsimp only
        refine hK.out _ _ ?_
        clear hK K
        try simp only [Act.put, List.setIfInBounds_toArray, List.set_cons_zero, List.set_cons_succ]
        refine Inv.take (i := 6) (v := .tuple #[.int .i64 tk2, .int .i64 0]) (by decide) rfl (by kernel_rfl) (by kernel_rfl) (by kernel_rfl) (fun _ _ _ h => h) (by rfl) (fun w' => ?_) ?_
        · simp only [List.getElem_toArray, List.getElem_cons_zero, List.getElem_cons_succ]
          go_simp
        try simp only [Act.put, List.setIfInBounds_toArray, List.set_cons_zero, List.set_cons_succ]
        refine Inv.take (i := 7) (v := .int .i64 tk2) (by decide) rfl (by kernel_rfl) (by kernel_rfl) (by kernel_rfl) (fun _ _ _ h => h) (by rfl) (fun w' => ?_) ?_
        · simp only [List.getElem_toArray, List.getElem_cons_zero, List.getElem_cons_succ]
          go_simp
        try simp only [Act.put, List.setIfInBounds_toArray, List.set_cons_zero, List.set_cons_succ]
        refine Inv.take (i := 8) (v := .int .i64 0) (by decide) rfl (by kernel_rfl) (by kernel_rfl) (by kernel_rfl) (fun _ _ _ h => h) (by rfl) (fun w' => ?_) ?_
        · simp only [List.getElem_toArray, List.getElem_cons_zero, List.getElem_cons_succ]
          go_simp
        try simp only [Act.put, List.setIfInBounds_toArray, List.set_cons_zero, List.set_cons_succ]
        refine Inv.take (i := 9) (v := .int .i64 tk2) (by decide) rfl (by kernel_rfl) (by kernel_rfl) (by kernel_rfl) (fun _ _ _ h => h) (by rfl) (fun w' => ?_) ?_
        · simp only [List.getElem_toArray, List.getElem_cons_zero, List.getElem_cons_succ]
          go_simp
        try simp only [Act.put, List.setIfInBounds_toArray, List.set_cons_zero, List.set_cons_succ]
        refine Inv.take (i := 10) (v := .int .i64 0) (by decide) rfl (by kernel_rfl) (by kernel_rfl) (by kernel_rfl) (fun _ _ _ h => h) (by rfl) (fun w' => ?_) ?_
        · simp only [List.getElem_toArray, List.getElem_cons_zero, List.getElem_cons_succ]
          go_simp
        try simp only [Act.put, List.setIfInBounds_toArray, List.set_cons_zero, List.set_cons_succ]
        refine Inv.done (by kernel_rfl) (NoPanic.normal ?_)
        have BE := Lib.hid (Buf.then_ hw.di.bel b16)
        have K12e := Lib.hid (Mis.hb b16 (blk_far K12.out hw.far (Ne.symm p11g)))
        have K14e := Lib.hid (Mis.hb b16 (blk_far K14.out hw.far (Ne.symm p13g)))
        clear hd e87 e91 BC hw b16 K12 K14 KX GX BX BQ D10
        have E12 := Lib.hid fun w' => loc_eq FN lw AA w'
        have h9 : decide (tk2 ≤ tk1) = true := decide_eq_true htk
        have E12' := E12.out
        clear hw0 D15
        go_wp2_with (first | ((with_reducible refine Mid.ldrg 40 (.tmp 11) p11 40 (lrow FN lw AA).toArray K12e.out ?_ ?_ ?_ ?_ ?_ ?_); (· rfl); (· first | rfl | simp [Region.wanted, yielded]); (· first | rfl | simp [Act.eval]); (· exact ⟨_, rfl, rfl⟩); (· kernel_rfl)) | ((with_reducible refine Mid.ldrg 40 (.tmp 13) p13 40 (lrow FN lw AA).toArray K14e.out ?_ ?_ ?_ ?_ ?_ ?_); (· rfl); (· first | rfl | simp [Region.wanted, yielded]); (· first | rfl | simp [Act.eval]); (· exact ⟨_, rfl, rfl⟩); (· kernel_rfl)) | (go_at_call 20; refine (Loc.awake_any _).mono ?_; rintro e w17 ⟨rfl, hc⟩))
        go_ret
        exact ⟨rfl, Buf.then_ BE.out hc⟩
end Laws
end Go.Proofs.Ytggfmpkgnphleaa
