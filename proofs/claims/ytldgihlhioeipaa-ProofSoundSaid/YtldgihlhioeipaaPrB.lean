/- PrB: texts joined. -/
import Derived.Test.YtldgihlhioeipaaPrA
import Derived.OneCell
import Derived.Laws.EntriesVeiled
/- proof.Check. -/
set_option linter.unusedVariables false
set_option linter.unusedSimpArgs false
namespace Go.Proofs.Ytldgihlhioeipaa
open Go.RowKit
namespace Loc
namespace Prf
section
variable {Ak : Ask} {R : Bx} {q : Pq} {FN : St} {lw : Int} {AA : Bx} {tol : Int}
set_option maxHeartbeats 16000000 in
set_option maxRecDepth 100000 in
theorem check_top {w : World} (P : Pr w Ak R q) (L : Lc Ak R FN lw AA) (hlm : lw ≤ FN.m) (t0 : 0 ≤ tol) (t9 : tol ≤ 1000000) {cv : Value} {c : List Int} (hc : Lst w cv c) (hl : c.length ≤ 6001) (f : Nat) (hf : np R ≤ (f : Int)) :
    Calls Try.prog 11 #[.agg (prb R q).toArray, .agg (lrow FN lw AA).toArray, .int .i64 tol, cv] w fun e w' => e = .returned (.int .i64 (if rd Ak (prv Ak FN.m lw AA tol) f R c = some [] then 0 else 26)) ∧ Below w.heap.size w w' := by
  obtain ⟨ad, cc, rfl⟩ := hc.form
  obtain ⟨e1, e2, e3⟩ : (w.alloc (.cells (prb R q).toArray 36)).heap.size = w.heap.size + 1 ∧ ((w.alloc (.cells (prb R q).toArray 36)).alloc (.cells (lrow FN lw AA).toArray 28)).heap.size = w.heap.size + 2 ∧ (((w.alloc (.cells (prb R q).toArray 36)).alloc (.cells (lrow FN lw AA).toArray 28)).alloc (.cells #[.int .i64 tol] 3)).heap.size = w.heap.size + 3 := ⟨by simp, by simp, by simp⟩
  obtain ⟨w1, hw1⟩ : ∃ z, z = (((w.alloc (.cells (prb R q).toArray 36)).alloc (.cells (lrow FN lw AA).toArray 28)).alloc (.cells #[.int .i64 tol] 3)).alloc (.cells #[.slice ad c.length cc] 22) := ⟨_, rfl⟩
  have B1 : Below w.heap.size w w1 := by rw [hw1]; exact (((Mis.new_block _).alloc (by omega) _).alloc (by omega) _).alloc (by omega) _
  have H4 : w1.heap[w.heap.size]? = some (.cells (prb R q).toArray 36 (0, 0)) := by rw [hw1]; exact Mis.hb (Mis.new_block _) (Mis.hb (Mis.new_block _) (Mis.hb (Mis.new_block _) (heap_alloc_new w _)))
  have H5 : w1.heap[w.heap.size + 1]? = some (.cells (lrow FN lw AA).toArray 28 (0, 0)) := by rw [hw1, ← e1]; exact Mis.hb (Mis.new_block _) (Mis.hb (Mis.new_block _) (heap_alloc_new _ _))
  have H6 : w1.heap[w.heap.size + 1 + 1]? = some (.cells #[.int .i64 tol] 3 (0, 0)) := by rw [hw1]; show _[w.heap.size + 2]? = _; rw [← e2]; exact Mis.hb (Mis.new_block _) (heap_alloc_new _ _)
  have H7 : w1.heap[w.heap.size + 1 + 1 + 1]? = some (.cells #[.slice ad c.length cc] 22 (0, 0)) := by rw [hw1]; show _[w.heap.size + 3]? = _; rw [← e3]; exact heap_alloc_new _ _
  clear e1 e2 e3
  have CC := Lib.hid fun (w' : World) (h' : Below w1.heap.size w1 w') => check_any (tol := tol) P (Buf.then_ B1 h') L t0
  have RA := Lib.hid (read_any P L t0 t9 hc (by omega))
  have rR := Lib.hid P.good.rv
  have m0 := L.m0
  have m9 := L.m9
  replace H4 := Lib.hid H4
  replace H5 := Lib.hid H5
  replace H6 := Lib.hid H6
  replace H7 := Lib.hid H7
  replace B1 := Lib.hid B1
  have hl6 : (c.length : Int) ≤ 6001 := by omega
  clear P L hc
  obtain ⟨oo, hoo⟩ : ∃ z, z = rd Ak (prv Ak FN.m lw AA tol) f R c := ⟨_, rfl⟩
  rw [← hoo]
  obtain ⟨rr, hrr⟩ : ∃ z : Int, z = if oo = some [] then 0 else 26 := ⟨_, rfl⟩
  rw [← hrr]
  replace hoo := Lib.hid hoo
  replace hrr := Lib.hid hrr
  go_enter Try.func11, Try.ntmps11
  go_upto_region 1 with fail
  rw [← hw1]
  obtain ⟨p4, hp4⟩ : ∃ z, z = w.heap.size := ⟨_, rfl⟩
  obtain ⟨p5, hp5⟩ : ∃ z, z = w.heap.size + 1 := ⟨_, rfl⟩
  obtain ⟨p6, hp6⟩ : ∃ z, z = w.heap.size + 1 + 1 := ⟨_, rfl⟩
  obtain ⟨p7, hp7⟩ : ∃ z, z = w.heap.size + 1 + 1 + 1 := ⟨_, rfl⟩
  rw [← hp4] at H4
  rw [← hp5] at H5
  rw [← hp6] at H6
  rw [← hp7] at H7
  rw [← hp7, ← hp6, ← hp5, ← hp4]
  have g4 : w.heap.size ≤ p4 ∧ p4 < w1.heap.size := ⟨by omega, (Array.getElem?_eq_some_iff.1 H4.out).1⟩
  have g5 : w.heap.size ≤ p5 ∧ p5 < w1.heap.size := ⟨by omega, (Array.getElem?_eq_some_iff.1 H5.out).1⟩
  have g6 : w.heap.size ≤ p6 ∧ p6 < w1.heap.size := ⟨by omega, (Array.getElem?_eq_some_iff.1 H6.out).1⟩
  have g7 : w.heap.size ≤ p7 ∧ p7 < w1.heap.size := ⟨by omega, (Array.getElem?_eq_some_iff.1 H7.out).1⟩
  clear hw1 hp4 hp5 hp6 hp7
  have c6 := cell_of_one H6.out
  go_upto_region 2 with (first | ((with_reducible refine Mid.ldr 36 (.tmp 4) p4 36 (prb R q).toArray H4.out ?_ ?_ ?_ ?_ ?_ ?_); (· rfl); (· rfl); (· first | rfl | simp [Act.eval]); (· exact ⟨_, rfl, rfl⟩); (· kernel_rfl)) | ((with_reducible refine Mid.ldr 28 (.tmp 5) p5 28 (lrow FN lw AA).toArray H5.out ?_ ?_ ?_ ?_ ?_ ?_); (· rfl); (· rfl); (· first | rfl | simp [Act.eval]); (· exact ⟨_, rfl, rfl⟩); (· kernel_rfl)) | (go_at_call 28; refine (CC.out _ (Below.refl _ _)).mono ?_; rintro e w2 ⟨rfl, b2⟩))
  have s2 := b2.size
  replace H4 := Lib.hid (Mis.hb b2 H4.out)
  replace H5 := Lib.hid (Mis.hb b2 H5.out)
  replace H6 := Lib.hid (Mis.hb b2 H6.out)
  replace H7 := Lib.hid (Mis.hb b2 H7.out)
  replace B1 := Lib.hid (Buf.then_ B1.out b2)
  clear c6 b2 CC
  have c7 := cell_of_one H7.out
  go_upto_region 6 with fail
  have e1 : (w2.alloc (.cells #[.int .i64 0] 3)).heap.size = w2.heap.size + 1 := by simp
  have KN : ((w2.alloc (.cells #[.int .i64 0] 3)).alloc (.cells #[.nilFunc] 75)).heap[w2.heap.size + 1]? = some (.cells #[.nilFunc] 75 (0, 0)) := by rw [← e1]; exact heap_alloc_new _ _
  have KF : ((w2.alloc (.cells #[.int .i64 0] 3)).alloc (.cells #[(FV w2.heap.size p7 p4 p5 p6 (w2.heap.size + 1))] 75)).heap[w2.heap.size + 1]? = some (.cells #[(FV w2.heap.size p7 p4 p5 p6 (w2.heap.size + 1))] 75 (0, 0)) := by rw [← e1]; exact heap_alloc_new _ _
  have NN : Below w2.heap.size w2 ((w2.alloc (.cells #[.int .i64 0] 3)).alloc (.cells #[(FV w2.heap.size p7 p4 p5 p6 (w2.heap.size + 1))] 75)) := (Mis.new_block _).alloc (by omega) _
  have KA := Mis.hb (Mis.new_block (w := w2.alloc (.cells #[.int .i64 0] 3)) (.cells #[(FV w2.heap.size p7 p4 p5 p6 (w2.heap.size + 1))] 75)) (heap_alloc_new w2 (.cells #[.int .i64 0] 3))
  have cN := cell_of_one KN
  have fN := free_of_one KN
  have RM0 : Hid (RM w w2.heap.size p7 p4 p5 p6 (w2.heap.size + 1) (.slice ad c.length cc) (FV w2.heap.size p7 p4 p5 p6 (w2.heap.size + 1)) R q FN lw AA tol ((w2.alloc (.cells #[.int .i64 0] 3)).alloc (.cells #[(FV w2.heap.size p7 p4 p5 p6 (w2.heap.size + 1))] 75)) 0) :=
    Lib.hid ⟨Buf.then_ B1.out NN, B1.out.size, KA, Mis.hb NN H7.out, Mis.hb NN H4.out, Mis.hb NN H5.out, Mis.hb NN H6.out, KF, by omega, by omega, by omega, by omega, by omega⟩
  clear KA KN KF NN e1
  go_upto_region 9 with fail
  clear cN fN c7
  unfold FV at RM0
  obtain ⟨w3, hw3⟩ : ∃ z, z = (w2.alloc (.cells #[.int .i64 0] 3)).alloc (.cells #[.func (.func 32) #[] #[.pointer (some ⟨w2.heap.size, 0, none⟩), .pointer (some ⟨p7, 0, none⟩), .pointer (some ⟨p4, 0, none⟩), .pointer (some ⟨p5, 0, none⟩), .pointer (some ⟨p6, 0, none⟩), .pointer (some ⟨w2.heap.size + 1, 0, none⟩)]] 75) := ⟨_, rfl⟩
  rw [← hw3] at RM0 ⊢
  obtain ⟨pr, hpr⟩ : ∃ z, z = w2.heap.size + 1 := ⟨_, rfl⟩
  rw [← hpr] at RM0 ⊢
  obtain ⟨pa, hpa⟩ : ∃ z, z = w2.heap.size := ⟨_, rfl⟩
  rw [← hpa] at RM0 ⊢
  clear hw3 hpr hpa H4 H5 H6 H7
  have CA := RA.out pa p7 p4 p5 p6 pr f R rR.out hf 0 (Nat.zero_le _) w3 RM0.out
  rw [List.drop_zero, ← hoo.out] at CA
  replace CA := Lib.hid CA
  have cr := cell_of_one RM0.out.kr
  have c4 : w3.cell? ⟨p5, 4, none⟩ = some (.int .i64 FN.m) := cell_of_row w3 p5 4 _ _ _ RM0.out.kx
  have c5 : w3.cell? ⟨p5, 5, none⟩ = some (.int .i64 lw) := cell_of_row w3 p5 5 _ _ _ RM0.out.kx
  have d1 : decide (lw > FN.m) = false := decide_eq_false (by omega)
  have RX := Lib.hid (Mid.range RM0.out.kp 0 (box6 R) (by rfl))
  clear RA
  go_wp2_with (first | ((with_reducible refine ldmg 26 (.tmp 30) p4 0 (box6 R) RX.out ?_ ?_ ?_ ?_ ?_ ?_); (· rfl); (· first | rfl | simp [Region.wanted, yielded]); (· first | rfl | simp [Act.eval]); (· exact ⟨_, rfl, rfl⟩); (· kernel_rfl)) | fail)
  refine CA.out.mono ?_
  rintro e w5 ⟨k1, hk1, M5, he, hd, hg⟩
  have ca := cell_of_one M5.ka
  have cc7 := cell_of_one M5.kc
  have b5 := Lib.hid M5.bel
  cases oo with
  | none =>
    rw [Option.isSome_none] at he
    subst he
    obtain rfl : rr = 26 := by rw [hrr.out]; rfl
    clear hd hg M5 CA
    go_wp2_with fail
    go_ret
    exact ⟨rfl, b5.out⟩
  | some t =>
    rw [Option.isSome_some] at he
    subst he
    have hdt := hd t rfl
    cases t with
    | nil =>
      obtain rfl : rr = 0 := by rw [hrr.out]; rfl
      have hk : k1 = c.length := by have := List.drop_eq_nil_iff.1 hdt; omega
      have e1 : ((k1 : Int) != (c.length : Int)) = false := by rw [hk]; simp
      clear hd hg M5 CA hdt
      go_wp2_with fail
      go_ret
      exact ⟨rfl, b5.out⟩
    | cons x t =>
      obtain rfl : rr = 26 := by rw [hrr.out]; rfl
      have hk : k1 ≠ c.length := by intro h; rw [h, List.drop_length] at hdt; cases hdt
      have e1 : ((k1 : Int) != (c.length : Int)) = true := by simp; omega
      clear hd hg M5 CA hdt
      go_wp2_with fail
      go_ret
      exact ⟨rfl, b5.out⟩
set_option maxHeartbeats 16000000 in
set_option maxRecDepth 100000 in
theorem check_low {w : World} (P : Pr w Ak R q) (L : Lc Ak R FN lw AA) (hlm : ¬ lw ≤ FN.m) (t0 : 0 ≤ tol) (t9 : tol ≤ 1000000) {cv : Value} {c : List Int} (hc : Lst w cv c) (hl : c.length ≤ 6001) :
    Calls Try.prog 11 #[.agg (prb R q).toArray, .agg (lrow FN lw AA).toArray, .int .i64 tol, cv] w fun e w' => e = .returned (.int .i64 26) ∧ Below w.heap.size w w' := by
  obtain ⟨ad, cc, rfl⟩ := hc.form
  obtain ⟨e1, e2, e3⟩ : (w.alloc (.cells (prb R q).toArray 36)).heap.size = w.heap.size + 1 ∧ ((w.alloc (.cells (prb R q).toArray 36)).alloc (.cells (lrow FN lw AA).toArray 28)).heap.size = w.heap.size + 2 ∧ (((w.alloc (.cells (prb R q).toArray 36)).alloc (.cells (lrow FN lw AA).toArray 28)).alloc (.cells #[.int .i64 tol] 3)).heap.size = w.heap.size + 3 := ⟨by simp, by simp, by simp⟩
  obtain ⟨w1, hw1⟩ : ∃ z, z = (((w.alloc (.cells (prb R q).toArray 36)).alloc (.cells (lrow FN lw AA).toArray 28)).alloc (.cells #[.int .i64 tol] 3)).alloc (.cells #[.slice ad c.length cc] 22) := ⟨_, rfl⟩
  have B1 : Below w.heap.size w w1 := by rw [hw1]; exact (((Mis.new_block _).alloc (by omega) _).alloc (by omega) _).alloc (by omega) _
  have H4 : w1.heap[w.heap.size]? = some (.cells (prb R q).toArray 36 (0, 0)) := by rw [hw1]; exact Mis.hb (Mis.new_block _) (Mis.hb (Mis.new_block _) (Mis.hb (Mis.new_block _) (heap_alloc_new w _)))
  have H5 : w1.heap[w.heap.size + 1]? = some (.cells (lrow FN lw AA).toArray 28 (0, 0)) := by rw [hw1, ← e1]; exact Mis.hb (Mis.new_block _) (Mis.hb (Mis.new_block _) (heap_alloc_new _ _))
  have H6 : w1.heap[w.heap.size + 1 + 1]? = some (.cells #[.int .i64 tol] 3 (0, 0)) := by rw [hw1]; show _[w.heap.size + 2]? = _; rw [← e2]; exact Mis.hb (Mis.new_block _) (heap_alloc_new _ _)
  have H7 : w1.heap[w.heap.size + 1 + 1 + 1]? = some (.cells #[.slice ad c.length cc] 22 (0, 0)) := by rw [hw1]; show _[w.heap.size + 3]? = _; rw [← e3]; exact heap_alloc_new _ _
  clear e1 e2 e3
  have CC := Lib.hid fun (w' : World) (h' : Below w1.heap.size w1 w') => check_any (tol := tol) P (Buf.then_ B1 h') L t0
  have rR := Lib.hid P.good.rv
  have m0 := L.m0
  have m9 := L.m9
  replace H4 := Lib.hid H4
  replace H5 := Lib.hid H5
  replace H6 := Lib.hid H6
  replace H7 := Lib.hid H7
  replace B1 := Lib.hid B1
  have hl6 : (c.length : Int) ≤ 6001 := by omega
  clear P L hc
  go_enter Try.func11, Try.ntmps11
  go_upto_region 1 with fail
  rw [← hw1]
  obtain ⟨p4, hp4⟩ : ∃ z, z = w.heap.size := ⟨_, rfl⟩
  obtain ⟨p5, hp5⟩ : ∃ z, z = w.heap.size + 1 := ⟨_, rfl⟩
  obtain ⟨p6, hp6⟩ : ∃ z, z = w.heap.size + 1 + 1 := ⟨_, rfl⟩
  obtain ⟨p7, hp7⟩ : ∃ z, z = w.heap.size + 1 + 1 + 1 := ⟨_, rfl⟩
  rw [← hp4] at H4
  rw [← hp5] at H5
  rw [← hp6] at H6
  rw [← hp7] at H7
  rw [← hp7, ← hp6, ← hp5, ← hp4]
  have g4 : w.heap.size ≤ p4 ∧ p4 < w1.heap.size := ⟨by omega, (Array.getElem?_eq_some_iff.1 H4.out).1⟩
  have g5 : w.heap.size ≤ p5 ∧ p5 < w1.heap.size := ⟨by omega, (Array.getElem?_eq_some_iff.1 H5.out).1⟩
  have g6 : w.heap.size ≤ p6 ∧ p6 < w1.heap.size := ⟨by omega, (Array.getElem?_eq_some_iff.1 H6.out).1⟩
  have g7 : w.heap.size ≤ p7 ∧ p7 < w1.heap.size := ⟨by omega, (Array.getElem?_eq_some_iff.1 H7.out).1⟩
  clear hw1 hp4 hp5 hp6 hp7
  have c6 := cell_of_one H6.out
  go_upto_region 2 with (first | ((with_reducible refine Mid.ldr 36 (.tmp 4) p4 36 (prb R q).toArray H4.out ?_ ?_ ?_ ?_ ?_ ?_); (· rfl); (· rfl); (· first | rfl | simp [Act.eval]); (· exact ⟨_, rfl, rfl⟩); (· kernel_rfl)) | ((with_reducible refine Mid.ldr 28 (.tmp 5) p5 28 (lrow FN lw AA).toArray H5.out ?_ ?_ ?_ ?_ ?_ ?_); (· rfl); (· rfl); (· first | rfl | simp [Act.eval]); (· exact ⟨_, rfl, rfl⟩); (· kernel_rfl)) | (go_at_call 28; refine (CC.out _ (Below.refl _ _)).mono ?_; rintro e w2 ⟨rfl, b2⟩))
  have s2 := b2.size
  replace H4 := Lib.hid (Mis.hb b2 H4.out)
  replace H5 := Lib.hid (Mis.hb b2 H5.out)
  replace H6 := Lib.hid (Mis.hb b2 H6.out)
  replace H7 := Lib.hid (Mis.hb b2 H7.out)
  replace B1 := Lib.hid (Buf.then_ B1.out b2)
  clear c6 b2 CC
  have c7 := cell_of_one H7.out
  go_upto_region 6 with fail
  have e1 : (w2.alloc (.cells #[.int .i64 0] 3)).heap.size = w2.heap.size + 1 := by simp
  have KN : ((w2.alloc (.cells #[.int .i64 0] 3)).alloc (.cells #[.nilFunc] 75)).heap[w2.heap.size + 1]? = some (.cells #[.nilFunc] 75 (0, 0)) := by rw [← e1]; exact heap_alloc_new _ _
  have KF : ((w2.alloc (.cells #[.int .i64 0] 3)).alloc (.cells #[(FV w2.heap.size p7 p4 p5 p6 (w2.heap.size + 1))] 75)).heap[w2.heap.size + 1]? = some (.cells #[(FV w2.heap.size p7 p4 p5 p6 (w2.heap.size + 1))] 75 (0, 0)) := by rw [← e1]; exact heap_alloc_new _ _
  have NN : Below w2.heap.size w2 ((w2.alloc (.cells #[.int .i64 0] 3)).alloc (.cells #[(FV w2.heap.size p7 p4 p5 p6 (w2.heap.size + 1))] 75)) := (Mis.new_block _).alloc (by omega) _
  have KA := Mis.hb (Mis.new_block (w := w2.alloc (.cells #[.int .i64 0] 3)) (.cells #[(FV w2.heap.size p7 p4 p5 p6 (w2.heap.size + 1))] 75)) (heap_alloc_new w2 (.cells #[.int .i64 0] 3))
  have cN := cell_of_one KN
  have fN := free_of_one KN
  have RM0 : Hid (RM w w2.heap.size p7 p4 p5 p6 (w2.heap.size + 1) (.slice ad c.length cc) (FV w2.heap.size p7 p4 p5 p6 (w2.heap.size + 1)) R q FN lw AA tol ((w2.alloc (.cells #[.int .i64 0] 3)).alloc (.cells #[(FV w2.heap.size p7 p4 p5 p6 (w2.heap.size + 1))] 75)) 0) :=
    Lib.hid ⟨Buf.then_ B1.out NN, B1.out.size, KA, Mis.hb NN H7.out, Mis.hb NN H4.out, Mis.hb NN H5.out, Mis.hb NN H6.out, KF, by omega, by omega, by omega, by omega, by omega⟩
  clear KA KN KF NN e1
  go_upto_region 9 with fail
  clear cN fN c7
  unfold FV at RM0
  obtain ⟨w3, hw3⟩ : ∃ z, z = (w2.alloc (.cells #[.int .i64 0] 3)).alloc (.cells #[.func (.func 32) #[] #[.pointer (some ⟨w2.heap.size, 0, none⟩), .pointer (some ⟨p7, 0, none⟩), .pointer (some ⟨p4, 0, none⟩), .pointer (some ⟨p5, 0, none⟩), .pointer (some ⟨p6, 0, none⟩), .pointer (some ⟨w2.heap.size + 1, 0, none⟩)]] 75) := ⟨_, rfl⟩
  rw [← hw3] at RM0 ⊢
  obtain ⟨pr, hpr⟩ : ∃ z, z = w2.heap.size + 1 := ⟨_, rfl⟩
  rw [← hpr] at RM0 ⊢
  obtain ⟨pa, hpa⟩ : ∃ z, z = w2.heap.size := ⟨_, rfl⟩
  rw [← hpa] at RM0 ⊢
  clear hw3 hpr hpa H4 H5 H6 H7
  have cr := cell_of_one RM0.out.kr
  have c4 : w3.cell? ⟨p5, 4, none⟩ = some (.int .i64 FN.m) := cell_of_row w3 p5 4 _ _ _ RM0.out.kx
  have c5 : w3.cell? ⟨p5, 5, none⟩ = some (.int .i64 lw) := cell_of_row w3 p5 5 _ _ _ RM0.out.kx
  have d1 : decide (lw > FN.m) = true := decide_eq_true (by omega)
  go_wp2_with fail
  go_ret
  exact ⟨rfl, RM0.out.bel⟩
set_option maxHeartbeats 16000000 in
set_option maxRecDepth 100000 in
theorem check_bad {w : World} (CH : ∀ w', Below w.heap.size w w' → Calls Try.prog 28 #[.agg (prb R q).toArray, .agg (lrow FN lw AA).toArray, .int .i64 tol] w' fun e w'' => e = .returned (.int .i64 10) ∧ Below w'.heap.size w' w'') {cv : Value} {c : List Int} (hc : Lst w cv c) (hl : c.length ≤ 6001) :
    Calls Try.prog 11 #[.agg (prb R q).toArray, .agg (lrow FN lw AA).toArray, .int .i64 tol, cv] w fun e w' => e = .returned (.int .i64 10) ∧ Below w.heap.size w w' := by
  obtain ⟨ad, cc, rfl⟩ := hc.form
  obtain ⟨e1, e2, e3⟩ : (w.alloc (.cells (prb R q).toArray 36)).heap.size = w.heap.size + 1 ∧ ((w.alloc (.cells (prb R q).toArray 36)).alloc (.cells (lrow FN lw AA).toArray 28)).heap.size = w.heap.size + 2 ∧ (((w.alloc (.cells (prb R q).toArray 36)).alloc (.cells (lrow FN lw AA).toArray 28)).alloc (.cells #[.int .i64 tol] 3)).heap.size = w.heap.size + 3 := ⟨by simp, by simp, by simp⟩
  obtain ⟨w1, hw1⟩ : ∃ z, z = (((w.alloc (.cells (prb R q).toArray 36)).alloc (.cells (lrow FN lw AA).toArray 28)).alloc (.cells #[.int .i64 tol] 3)).alloc (.cells #[.slice ad c.length cc] 22) := ⟨_, rfl⟩
  have B1 : Below w.heap.size w w1 := by rw [hw1]; exact (((Mis.new_block _).alloc (by omega) _).alloc (by omega) _).alloc (by omega) _
  have H4 : w1.heap[w.heap.size]? = some (.cells (prb R q).toArray 36 (0, 0)) := by rw [hw1]; exact Mis.hb (Mis.new_block _) (Mis.hb (Mis.new_block _) (Mis.hb (Mis.new_block _) (heap_alloc_new w _)))
  have H5 : w1.heap[w.heap.size + 1]? = some (.cells (lrow FN lw AA).toArray 28 (0, 0)) := by rw [hw1, ← e1]; exact Mis.hb (Mis.new_block _) (Mis.hb (Mis.new_block _) (heap_alloc_new _ _))
  have H6 : w1.heap[w.heap.size + 1 + 1]? = some (.cells #[.int .i64 tol] 3 (0, 0)) := by rw [hw1]; show _[w.heap.size + 2]? = _; rw [← e2]; exact Mis.hb (Mis.new_block _) (heap_alloc_new _ _)
  have H7 : w1.heap[w.heap.size + 1 + 1 + 1]? = some (.cells #[.slice ad c.length cc] 22 (0, 0)) := by rw [hw1]; show _[w.heap.size + 3]? = _; rw [← e3]; exact heap_alloc_new _ _
  clear e1 e2 e3
  have CC := Lib.hid fun (w' : World) (h' : Below w1.heap.size w1 w') => CH w' (Buf.then_ B1 h')
  replace H4 := Lib.hid H4
  replace H5 := Lib.hid H5
  replace H6 := Lib.hid H6
  replace H7 := Lib.hid H7
  replace B1 := Lib.hid B1
  have hl6 : (c.length : Int) ≤ 6001 := by omega
  clear CH hc
  go_enter Try.func11, Try.ntmps11
  go_upto_region 1 with fail
  rw [← hw1]
  obtain ⟨p4, hp4⟩ : ∃ z, z = w.heap.size := ⟨_, rfl⟩
  obtain ⟨p5, hp5⟩ : ∃ z, z = w.heap.size + 1 := ⟨_, rfl⟩
  obtain ⟨p6, hp6⟩ : ∃ z, z = w.heap.size + 1 + 1 := ⟨_, rfl⟩
  obtain ⟨p7, hp7⟩ : ∃ z, z = w.heap.size + 1 + 1 + 1 := ⟨_, rfl⟩
  rw [← hp4] at H4
  rw [← hp5] at H5
  rw [← hp6] at H6
  rw [← hp7] at H7
  rw [← hp7, ← hp6, ← hp5, ← hp4]
  have g4 : w.heap.size ≤ p4 ∧ p4 < w1.heap.size := ⟨by omega, (Array.getElem?_eq_some_iff.1 H4.out).1⟩
  have g5 : w.heap.size ≤ p5 ∧ p5 < w1.heap.size := ⟨by omega, (Array.getElem?_eq_some_iff.1 H5.out).1⟩
  have g6 : w.heap.size ≤ p6 ∧ p6 < w1.heap.size := ⟨by omega, (Array.getElem?_eq_some_iff.1 H6.out).1⟩
  have g7 : w.heap.size ≤ p7 ∧ p7 < w1.heap.size := ⟨by omega, (Array.getElem?_eq_some_iff.1 H7.out).1⟩
  clear hw1 hp4 hp5 hp6 hp7
  have c6 := cell_of_one H6.out
  go_upto_region 2 with (first | ((with_reducible refine Mid.ldr 36 (.tmp 4) p4 36 (prb R q).toArray H4.out ?_ ?_ ?_ ?_ ?_ ?_); (· rfl); (· rfl); (· first | rfl | simp [Act.eval]); (· exact ⟨_, rfl, rfl⟩); (· kernel_rfl)) | ((with_reducible refine Mid.ldr 28 (.tmp 5) p5 28 (lrow FN lw AA).toArray H5.out ?_ ?_ ?_ ?_ ?_ ?_); (· rfl); (· rfl); (· first | rfl | simp [Act.eval]); (· exact ⟨_, rfl, rfl⟩); (· kernel_rfl)) | (go_at_call 28; refine (CC.out _ (Below.refl _ _)).mono ?_; rintro e w2 ⟨rfl, b2⟩))
  have s2 := b2.size
  have B2 := Lib.hid (Buf.then_ B1.out b2)
  go_wp2_with fail
  go_ret
  exact ⟨rfl, B2.out⟩
end
end Prf
end Loc
end Go.Proofs.Ytldgihlhioeipaa

/- proof.Make. -/
set_option linter.unusedVariables false
set_option linter.unusedSimpArgs false
namespace Go.Proofs.Ytldgihlhioeipaa
open Go.RowKit
namespace Loc
namespace Prf
section
variable {Ak : Ask} {R : Bx} {q : Pq} {FN : St} {lw : Int} {AA : Bx} {tol : Int}
set_option maxHeartbeats 16000000 in
set_option maxRecDepth 100000 in
theorem make_top {w : World} (P : Pr w Ak R q) (L0 : Lc Ak R FN lw AA) (hlm : lw ≤ FN.m) (t0 : 0 ≤ tol) (t9 : tol ≤ 1000000) (f : Nat) (hf : np R ≤ (f : Int)) {c : List Int} (hc : cert Ak (prv Ak FN.m lw AA tol) f R = some c) (hl : c.length ≤ 6000) :
    Calls Try.prog 10 #[.agg (prb R q).toArray, .agg (lrow FN lw AA).toArray, .int .i64 tol] w fun e w' => ∃ v, e = .returned (.tuple #[v, .int .i64 0]) ∧ w'.ownsRow w.heap.size 3 1 v c.length (c.map fun z => .int .i64 z) ∧ Below w.heap.size w w' := by
  obtain ⟨e1, e2⟩ : (w.alloc (.cells (prb R q).toArray 36)).heap.size = w.heap.size + 1 ∧ ((w.alloc (.cells (prb R q).toArray 36)).alloc (.cells (lrow FN lw AA).toArray 28)).heap.size = w.heap.size + 2 := ⟨by simp, by simp⟩
  obtain ⟨w1, hw1⟩ : ∃ z, z = ((w.alloc (.cells (prb R q).toArray 36)).alloc (.cells (lrow FN lw AA).toArray 28)).alloc (.cells #[.int .i64 tol] 3) := ⟨_, rfl⟩
  have B1 : Below w.heap.size w w1 := by rw [hw1]; exact ((Mis.new_block _).alloc (by omega) _).alloc (by omega) _
  have H4 : w1.heap[w.heap.size]? = some (.cells (prb R q).toArray 36 (0, 0)) := by rw [hw1]; exact Mis.hb (Mis.new_block _) (Mis.hb (Mis.new_block _) (heap_alloc_new w _))
  have H5 : w1.heap[w.heap.size + 1]? = some (.cells (lrow FN lw AA).toArray 28 (0, 0)) := by rw [hw1, ← e1]; exact Mis.hb (Mis.new_block _) (heap_alloc_new _ _)
  have H6 : w1.heap[w.heap.size + 1 + 1]? = some (.cells #[.int .i64 tol] 3 (0, 0)) := by rw [hw1]; show _[w.heap.size + 2]? = _; rw [← e2]; exact heap_alloc_new _ _
  clear e1 e2
  have CC := Lib.hid fun (w' : World) (h' : Below w1.heap.size w1 w') => check_any (tol := tol) P (Buf.then_ B1 h') L0 t0
  have WA := Lib.hid (write_any P L0 t0 t9)
  have rR := Lib.hid P.good.rv
  have m0 := L0.m0
  have m9 := L0.m9
  replace H4 := Lib.hid H4
  replace H5 := Lib.hid H5
  replace H6 := Lib.hid H6
  replace B1 := Lib.hid B1
  replace hc := Lib.hid hc
  clear P L0
  go_enter Try.func10, Try.ntmps10
  go_upto_region 1 with fail
  rw [← hw1]
  obtain ⟨p4, hp4⟩ : ∃ z, z = w.heap.size := ⟨_, rfl⟩
  obtain ⟨p5, hp5⟩ : ∃ z, z = w.heap.size + 1 := ⟨_, rfl⟩
  obtain ⟨p6, hp6⟩ : ∃ z, z = w.heap.size + 1 + 1 := ⟨_, rfl⟩
  rw [← hp4] at H4
  rw [← hp5] at H5
  rw [← hp6] at H6
  rw [← hp6, ← hp5, ← hp4]
  have g4 : w.heap.size ≤ p4 ∧ p4 < w1.heap.size := ⟨by omega, (Array.getElem?_eq_some_iff.1 H4.out).1⟩
  have g5 : w.heap.size ≤ p5 ∧ p5 < w1.heap.size := ⟨by omega, (Array.getElem?_eq_some_iff.1 H5.out).1⟩
  have g6 : w.heap.size ≤ p6 ∧ p6 < w1.heap.size := ⟨by omega, (Array.getElem?_eq_some_iff.1 H6.out).1⟩
  clear hw1 hp4 hp5 hp6
  have c6 := cell_of_one H6.out
  go_upto_region 2 with (first | ((with_reducible refine Mid.ldr 36 (.tmp 3) p4 36 (prb R q).toArray H4.out ?_ ?_ ?_ ?_ ?_ ?_); (· rfl); (· rfl); (· first | rfl | simp [Act.eval]); (· exact ⟨_, rfl, rfl⟩); (· kernel_rfl)) | ((with_reducible refine Mid.ldr 28 (.tmp 4) p5 28 (lrow FN lw AA).toArray H5.out ?_ ?_ ?_ ?_ ?_ ?_); (· rfl); (· rfl); (· first | rfl | simp [Act.eval]); (· exact ⟨_, rfl, rfl⟩); (· kernel_rfl)) | (go_at_call 28; refine (CC.out _ (Below.refl _ _)).mono ?_; rintro e w2 ⟨rfl, b2⟩))
  have s2 := b2.size
  replace H4 := Lib.hid (Mis.hb b2 H4.out)
  replace H5 := Lib.hid (Mis.hb b2 H5.out)
  replace H6 := Lib.hid (Mis.hb b2 H6.out)
  replace B1 := Lib.hid (Buf.then_ B1.out b2)
  clear c6 b2 CC
  have c4 : w2.cell? ⟨p5, 4, none⟩ = some (.int .i64 FN.m) := cell_of_row w2 p5 4 _ _ _ H5.out
  have c5 : w2.cell? ⟨p5, 5, none⟩ = some (.int .i64 lw) := cell_of_row w2 p5 5 _ _ _ H5.out
  have d1 : decide (lw > FN.m) = false := decide_eq_false (by omega)
  have e1 : (w2.alloc (.cells #[.slice none 0 0] 22)).heap.size = w2.heap.size + 1 := by simp
  have KN : ((w2.alloc (.cells #[.slice none 0 0] 22)).alloc (.cells #[.nilFunc] 71)).heap[w2.heap.size + 1]? = some (.cells #[.nilFunc] 71 (0, 0)) := by rw [← e1]; exact heap_alloc_new _ _
  have KF : ((w2.alloc (.cells #[.slice none 0 0] 22)).alloc (.cells #[(GV p4 p5 p6 w2.heap.size (w2.heap.size + 1))] 71)).heap[w2.heap.size + 1]? = some (.cells #[(GV p4 p5 p6 w2.heap.size (w2.heap.size + 1))] 71 (0, 0)) := by rw [← e1]; exact heap_alloc_new _ _
  have NN : Below w2.heap.size w2 ((w2.alloc (.cells #[.slice none 0 0] 22)).alloc (.cells #[(GV p4 p5 p6 w2.heap.size (w2.heap.size + 1))] 71)) := (Mis.new_block _).alloc (by omega) _
  have KA := Mis.hb (Mis.new_block (w := w2.alloc (.cells #[.slice none 0 0] 22)) (.cells #[(GV p4 p5 p6 w2.heap.size (w2.heap.size + 1))] 71)) (heap_alloc_new w2 (.cells #[.slice none 0 0] 22))
  have cN := cell_of_one KN
  have fN := free_of_one KN
  have WM0 : Hid (WM w p4 p5 p6 w2.heap.size (w2.heap.size + 1) (GV p4 p5 p6 w2.heap.size (w2.heap.size + 1)) R q FN lw AA tol ((w2.alloc (.cells #[.slice none 0 0] 22)).alloc (.cells #[(GV p4 p5 p6 w2.heap.size (w2.heap.size + 1))] 71)) (.slice none 0 0) []) :=
    Lib.hid ⟨Buf.then_ B1.out NN, World.ownsRow_nil _ _ _ _, Mis.hb NN H4.out, Mis.hb NN H5.out, Mis.hb NN H6.out, KA, KF, B1.out.size, by omega, by omega, by omega, by omega⟩
  clear KA KN KF NN e1
  go_upto_region 9 with fail
  clear cN fN
  unfold GV at WM0
  obtain ⟨w3, hw3⟩ : ∃ z, z = (w2.alloc (.cells #[.slice none 0 0] 22)).alloc (.cells #[.func (.func 29) #[] #[.pointer (some ⟨p4, 0, none⟩), .pointer (some ⟨p5, 0, none⟩), .pointer (some ⟨p6, 0, none⟩), .pointer (some ⟨w2.heap.size, 0, none⟩), .pointer (some ⟨w2.heap.size + 1, 0, none⟩)]] 71) := ⟨_, rfl⟩
  rw [← hw3] at WM0 ⊢
  obtain ⟨pw, hpw⟩ : ∃ z, z = w2.heap.size + 1 := ⟨_, rfl⟩
  rw [← hpw] at WM0 ⊢
  obtain ⟨ps, hps⟩ : ∃ z, z = w2.heap.size := ⟨_, rfl⟩
  rw [← hps] at WM0 ⊢
  clear hw3 hpw hps H4 H5 H6 c4 c5
  have CA := Lib.hid (WA.out p4 p5 p6 ps pw f R rR.out hf c hc.out [] (.slice none 0 0) w3 (by simp; omega) WM0.out)
  have cr := cell_of_one WM0.out.kw
  have RX := Lib.hid (Mid.range WM0.out.kp 0 (box6 R) (by rfl))
  have gpw : w.heap.size ≤ pw + 1 := by have := WM0.out.ge; have := WM0.out.nw; omega
  clear WA
  go_wp2_with (first | ((with_reducible refine Mid.ldm 26 (.tmp 26) p4 0 (box6 R) RX.out ?_ ?_ ?_ ?_ ?_ ?_); (· rfl); (· rfl); (· first | rfl | simp [Act.eval]); (· exact ⟨_, rfl, rfl⟩); (· kernel_rfl)) | fail)
  refine CA.out.mono ?_
  rintro e w5 ⟨rfl, v5, M5, F5⟩
  rw [List.nil_append] at M5
  obtain ⟨ra, rm, rc, rfl, hrm⟩ := Mis.own_letter M5.own
  have cs := cell_of_one M5.ks
  have M5h := Lib.hid M5
  clear M5 F5 CA
  go_wp2_with fail
  go_ret2
  exact ⟨_, rfl, Mis.own_mono M5h.out.own gpw, M5h.out.bel⟩
set_option maxHeartbeats 16000000 in
set_option maxRecDepth 100000 in
theorem make_none {w : World} (P : Pr w Ak R q) (L0 : Lc Ak R FN lw AA) (hlm : lw ≤ FN.m) (t0 : 0 ≤ tol) (t9 : tol ≤ 1000000) (f : Nat) (hf : np R ≤ (f : Int)) (hc : cert Ak (prv Ak FN.m lw AA tol) f R = none) (hl : 2 * np R - 1 ≤ 6000) :
    Calls Try.prog 10 #[.agg (prb R q).toArray, .agg (lrow FN lw AA).toArray, .int .i64 tol] w fun e w' => e = .returned (.tuple #[.slice none 0 0, .int .i64 26]) ∧ Below w.heap.size w w' := by
  obtain ⟨e1, e2⟩ : (w.alloc (.cells (prb R q).toArray 36)).heap.size = w.heap.size + 1 ∧ ((w.alloc (.cells (prb R q).toArray 36)).alloc (.cells (lrow FN lw AA).toArray 28)).heap.size = w.heap.size + 2 := ⟨by simp, by simp⟩
  obtain ⟨w1, hw1⟩ : ∃ z, z = ((w.alloc (.cells (prb R q).toArray 36)).alloc (.cells (lrow FN lw AA).toArray 28)).alloc (.cells #[.int .i64 tol] 3) := ⟨_, rfl⟩
  have B1 : Below w.heap.size w w1 := by rw [hw1]; exact ((Mis.new_block _).alloc (by omega) _).alloc (by omega) _
  have H4 : w1.heap[w.heap.size]? = some (.cells (prb R q).toArray 36 (0, 0)) := by rw [hw1]; exact Mis.hb (Mis.new_block _) (Mis.hb (Mis.new_block _) (heap_alloc_new w _))
  have H5 : w1.heap[w.heap.size + 1]? = some (.cells (lrow FN lw AA).toArray 28 (0, 0)) := by rw [hw1, ← e1]; exact Mis.hb (Mis.new_block _) (heap_alloc_new _ _)
  have H6 : w1.heap[w.heap.size + 1 + 1]? = some (.cells #[.int .i64 tol] 3 (0, 0)) := by rw [hw1]; show _[w.heap.size + 2]? = _; rw [← e2]; exact heap_alloc_new _ _
  clear e1 e2
  have CC := Lib.hid fun (w' : World) (h' : Below w1.heap.size w1 w') => check_any (tol := tol) P (Buf.then_ B1 h') L0 t0
  have WA := Lib.hid (write_none P L0 t0 t9)
  have rR := Lib.hid P.good.rv
  have m0 := L0.m0
  have m9 := L0.m9
  replace H4 := Lib.hid H4
  replace H5 := Lib.hid H5
  replace H6 := Lib.hid H6
  replace B1 := Lib.hid B1
  replace hc := Lib.hid hc
  clear P L0
  go_enter Try.func10, Try.ntmps10
  go_upto_region 1 with fail
  rw [← hw1]
  obtain ⟨p4, hp4⟩ : ∃ z, z = w.heap.size := ⟨_, rfl⟩
  obtain ⟨p5, hp5⟩ : ∃ z, z = w.heap.size + 1 := ⟨_, rfl⟩
  obtain ⟨p6, hp6⟩ : ∃ z, z = w.heap.size + 1 + 1 := ⟨_, rfl⟩
  rw [← hp4] at H4
  rw [← hp5] at H5
  rw [← hp6] at H6
  rw [← hp6, ← hp5, ← hp4]
  have g4 : w.heap.size ≤ p4 ∧ p4 < w1.heap.size := ⟨by omega, (Array.getElem?_eq_some_iff.1 H4.out).1⟩
  have g5 : w.heap.size ≤ p5 ∧ p5 < w1.heap.size := ⟨by omega, (Array.getElem?_eq_some_iff.1 H5.out).1⟩
  have g6 : w.heap.size ≤ p6 ∧ p6 < w1.heap.size := ⟨by omega, (Array.getElem?_eq_some_iff.1 H6.out).1⟩
  clear hw1 hp4 hp5 hp6
  have c6 := cell_of_one H6.out
  go_upto_region 2 with (first | ((with_reducible refine Mid.ldr 36 (.tmp 3) p4 36 (prb R q).toArray H4.out ?_ ?_ ?_ ?_ ?_ ?_); (· rfl); (· rfl); (· first | rfl | simp [Act.eval]); (· exact ⟨_, rfl, rfl⟩); (· kernel_rfl)) | ((with_reducible refine Mid.ldr 28 (.tmp 4) p5 28 (lrow FN lw AA).toArray H5.out ?_ ?_ ?_ ?_ ?_ ?_); (· rfl); (· rfl); (· first | rfl | simp [Act.eval]); (· exact ⟨_, rfl, rfl⟩); (· kernel_rfl)) | (go_at_call 28; refine (CC.out _ (Below.refl _ _)).mono ?_; rintro e w2 ⟨rfl, b2⟩))
  have s2 := b2.size
  replace H4 := Lib.hid (Mis.hb b2 H4.out)
  replace H5 := Lib.hid (Mis.hb b2 H5.out)
  replace H6 := Lib.hid (Mis.hb b2 H6.out)
  replace B1 := Lib.hid (Buf.then_ B1.out b2)
  clear c6 b2 CC
  have c4 : w2.cell? ⟨p5, 4, none⟩ = some (.int .i64 FN.m) := cell_of_row w2 p5 4 _ _ _ H5.out
  have c5 : w2.cell? ⟨p5, 5, none⟩ = some (.int .i64 lw) := cell_of_row w2 p5 5 _ _ _ H5.out
  have d1 : decide (lw > FN.m) = false := decide_eq_false (by omega)
  have e1 : (w2.alloc (.cells #[.slice none 0 0] 22)).heap.size = w2.heap.size + 1 := by simp
  have KN : ((w2.alloc (.cells #[.slice none 0 0] 22)).alloc (.cells #[.nilFunc] 71)).heap[w2.heap.size + 1]? = some (.cells #[.nilFunc] 71 (0, 0)) := by rw [← e1]; exact heap_alloc_new _ _
  have KF : ((w2.alloc (.cells #[.slice none 0 0] 22)).alloc (.cells #[(GV p4 p5 p6 w2.heap.size (w2.heap.size + 1))] 71)).heap[w2.heap.size + 1]? = some (.cells #[(GV p4 p5 p6 w2.heap.size (w2.heap.size + 1))] 71 (0, 0)) := by rw [← e1]; exact heap_alloc_new _ _
  have NN : Below w2.heap.size w2 ((w2.alloc (.cells #[.slice none 0 0] 22)).alloc (.cells #[(GV p4 p5 p6 w2.heap.size (w2.heap.size + 1))] 71)) := (Mis.new_block _).alloc (by omega) _
  have KA := Mis.hb (Mis.new_block (w := w2.alloc (.cells #[.slice none 0 0] 22)) (.cells #[(GV p4 p5 p6 w2.heap.size (w2.heap.size + 1))] 71)) (heap_alloc_new w2 (.cells #[.slice none 0 0] 22))
  have cN := cell_of_one KN
  have fN := free_of_one KN
  have WM0 : Hid (WM w p4 p5 p6 w2.heap.size (w2.heap.size + 1) (GV p4 p5 p6 w2.heap.size (w2.heap.size + 1)) R q FN lw AA tol ((w2.alloc (.cells #[.slice none 0 0] 22)).alloc (.cells #[(GV p4 p5 p6 w2.heap.size (w2.heap.size + 1))] 71)) (.slice none 0 0) []) :=
    Lib.hid ⟨Buf.then_ B1.out NN, World.ownsRow_nil _ _ _ _, Mis.hb NN H4.out, Mis.hb NN H5.out, Mis.hb NN H6.out, KA, KF, B1.out.size, by omega, by omega, by omega, by omega⟩
  clear KA KN KF NN e1
  go_upto_region 9 with fail
  clear cN fN
  unfold GV at WM0
  obtain ⟨w3, hw3⟩ : ∃ z, z = (w2.alloc (.cells #[.slice none 0 0] 22)).alloc (.cells #[.func (.func 29) #[] #[.pointer (some ⟨p4, 0, none⟩), .pointer (some ⟨p5, 0, none⟩), .pointer (some ⟨p6, 0, none⟩), .pointer (some ⟨w2.heap.size, 0, none⟩), .pointer (some ⟨w2.heap.size + 1, 0, none⟩)]] 71) := ⟨_, rfl⟩
  rw [← hw3] at WM0 ⊢
  obtain ⟨pw, hpw⟩ : ∃ z, z = w2.heap.size + 1 := ⟨_, rfl⟩
  rw [← hpw] at WM0 ⊢
  obtain ⟨ps, hps⟩ : ∃ z, z = w2.heap.size := ⟨_, rfl⟩
  rw [← hps] at WM0 ⊢
  clear hw3 hpw hps H4 H5 H6 c4 c5
  have CA := Lib.hid (WA.out p4 p5 p6 ps pw f R rR.out hf hc.out [] (.slice none 0 0) w3 (by simp; omega) WM0.out)
  have cr := cell_of_one WM0.out.kw
  have RX := Lib.hid (Mid.range WM0.out.kp 0 (box6 R) (by rfl))
  have gpw : w.heap.size ≤ pw + 1 := by have := WM0.out.ge; have := WM0.out.nw; omega
  clear WA
  go_wp2_with (first | ((with_reducible refine Mid.ldm 26 (.tmp 26) p4 0 (box6 R) RX.out ?_ ?_ ?_ ?_ ?_ ?_); (· rfl); (· rfl); (· first | rfl | simp [Act.eval]); (· exact ⟨_, rfl, rfl⟩); (· kernel_rfl)) | fail)
  refine CA.out.mono ?_
  rintro e w5 ⟨rfl, b5⟩
  have B5 := Lib.hid b5
  clear b5 CA
  go_wp2_with fail
  go_ret2
  exact ⟨rfl, B5.out⟩
set_option maxHeartbeats 16000000 in
set_option maxRecDepth 100000 in
theorem make_low {w : World} (P : Pr w Ak R q) (L0 : Lc Ak R FN lw AA) (hlm : ¬ lw ≤ FN.m) (t0 : 0 ≤ tol) (t9 : tol ≤ 1000000) :
    Calls Try.prog 10 #[.agg (prb R q).toArray, .agg (lrow FN lw AA).toArray, .int .i64 tol] w fun e w' => e = .returned (.tuple #[.slice none 0 0, .int .i64 26]) ∧ Below w.heap.size w w' := by
  obtain ⟨e1, e2⟩ : (w.alloc (.cells (prb R q).toArray 36)).heap.size = w.heap.size + 1 ∧ ((w.alloc (.cells (prb R q).toArray 36)).alloc (.cells (lrow FN lw AA).toArray 28)).heap.size = w.heap.size + 2 := ⟨by simp, by simp⟩
  obtain ⟨w1, hw1⟩ : ∃ z, z = ((w.alloc (.cells (prb R q).toArray 36)).alloc (.cells (lrow FN lw AA).toArray 28)).alloc (.cells #[.int .i64 tol] 3) := ⟨_, rfl⟩
  have B1 : Below w.heap.size w w1 := by rw [hw1]; exact ((Mis.new_block _).alloc (by omega) _).alloc (by omega) _
  have H4 : w1.heap[w.heap.size]? = some (.cells (prb R q).toArray 36 (0, 0)) := by rw [hw1]; exact Mis.hb (Mis.new_block _) (Mis.hb (Mis.new_block _) (heap_alloc_new w _))
  have H5 : w1.heap[w.heap.size + 1]? = some (.cells (lrow FN lw AA).toArray 28 (0, 0)) := by rw [hw1, ← e1]; exact Mis.hb (Mis.new_block _) (heap_alloc_new _ _)
  have H6 : w1.heap[w.heap.size + 1 + 1]? = some (.cells #[.int .i64 tol] 3 (0, 0)) := by rw [hw1]; show _[w.heap.size + 2]? = _; rw [← e2]; exact heap_alloc_new _ _
  clear e1 e2
  have CC := Lib.hid fun (w' : World) (h' : Below w1.heap.size w1 w') => check_any (tol := tol) P (Buf.then_ B1 h') L0 t0
  have rR := Lib.hid P.good.rv
  have m0 := L0.m0
  have m9 := L0.m9
  replace H4 := Lib.hid H4
  replace H5 := Lib.hid H5
  replace H6 := Lib.hid H6
  replace B1 := Lib.hid B1
  clear P L0
  go_enter Try.func10, Try.ntmps10
  go_upto_region 1 with fail
  rw [← hw1]
  obtain ⟨p4, hp4⟩ : ∃ z, z = w.heap.size := ⟨_, rfl⟩
  obtain ⟨p5, hp5⟩ : ∃ z, z = w.heap.size + 1 := ⟨_, rfl⟩
  obtain ⟨p6, hp6⟩ : ∃ z, z = w.heap.size + 1 + 1 := ⟨_, rfl⟩
  rw [← hp4] at H4
  rw [← hp5] at H5
  rw [← hp6] at H6
  rw [← hp6, ← hp5, ← hp4]
  have g4 : w.heap.size ≤ p4 ∧ p4 < w1.heap.size := ⟨by omega, (Array.getElem?_eq_some_iff.1 H4.out).1⟩
  have g5 : w.heap.size ≤ p5 ∧ p5 < w1.heap.size := ⟨by omega, (Array.getElem?_eq_some_iff.1 H5.out).1⟩
  have g6 : w.heap.size ≤ p6 ∧ p6 < w1.heap.size := ⟨by omega, (Array.getElem?_eq_some_iff.1 H6.out).1⟩
  clear hw1 hp4 hp5 hp6
  have c6 := cell_of_one H6.out
  go_upto_region 2 with (first | ((with_reducible refine Mid.ldr 36 (.tmp 3) p4 36 (prb R q).toArray H4.out ?_ ?_ ?_ ?_ ?_ ?_); (· rfl); (· rfl); (· first | rfl | simp [Act.eval]); (· exact ⟨_, rfl, rfl⟩); (· kernel_rfl)) | ((with_reducible refine Mid.ldr 28 (.tmp 4) p5 28 (lrow FN lw AA).toArray H5.out ?_ ?_ ?_ ?_ ?_ ?_); (· rfl); (· rfl); (· first | rfl | simp [Act.eval]); (· exact ⟨_, rfl, rfl⟩); (· kernel_rfl)) | (go_at_call 28; refine (CC.out _ (Below.refl _ _)).mono ?_; rintro e w2 ⟨rfl, b2⟩))
  have s2 := b2.size
  replace H4 := Lib.hid (Mis.hb b2 H4.out)
  replace H5 := Lib.hid (Mis.hb b2 H5.out)
  replace H6 := Lib.hid (Mis.hb b2 H6.out)
  replace B1 := Lib.hid (Buf.then_ B1.out b2)
  clear c6 b2 CC
  have c4 : w2.cell? ⟨p5, 4, none⟩ = some (.int .i64 FN.m) := cell_of_row w2 p5 4 _ _ _ H5.out
  have c5 : w2.cell? ⟨p5, 5, none⟩ = some (.int .i64 lw) := cell_of_row w2 p5 5 _ _ _ H5.out
  have d1 : decide (lw > FN.m) = true := decide_eq_true (by omega)
  go_wp2_with fail
  go_ret2
  exact ⟨rfl, B1.out⟩
set_option maxHeartbeats 16000000 in
set_option maxRecDepth 100000 in
theorem make_bad {w : World} (CH : ∀ w', Below w.heap.size w w' → Calls Try.prog 28 #[.agg (prb R q).toArray, .agg (lrow FN lw AA).toArray, .int .i64 tol] w' fun e w'' => e = .returned (.int .i64 10) ∧ Below w'.heap.size w' w'') :
    Calls Try.prog 10 #[.agg (prb R q).toArray, .agg (lrow FN lw AA).toArray, .int .i64 tol] w fun e w' => e = .returned (.tuple #[.slice none 0 0, .int .i64 10]) ∧ Below w.heap.size w w' := by
  obtain ⟨e1, e2⟩ : (w.alloc (.cells (prb R q).toArray 36)).heap.size = w.heap.size + 1 ∧ ((w.alloc (.cells (prb R q).toArray 36)).alloc (.cells (lrow FN lw AA).toArray 28)).heap.size = w.heap.size + 2 := ⟨by simp, by simp⟩
  obtain ⟨w1, hw1⟩ : ∃ z, z = ((w.alloc (.cells (prb R q).toArray 36)).alloc (.cells (lrow FN lw AA).toArray 28)).alloc (.cells #[.int .i64 tol] 3) := ⟨_, rfl⟩
  have B1 : Below w.heap.size w w1 := by rw [hw1]; exact ((Mis.new_block _).alloc (by omega) _).alloc (by omega) _
  have H4 : w1.heap[w.heap.size]? = some (.cells (prb R q).toArray 36 (0, 0)) := by rw [hw1]; exact Mis.hb (Mis.new_block _) (Mis.hb (Mis.new_block _) (heap_alloc_new w _))
  have H5 : w1.heap[w.heap.size + 1]? = some (.cells (lrow FN lw AA).toArray 28 (0, 0)) := by rw [hw1, ← e1]; exact Mis.hb (Mis.new_block _) (heap_alloc_new _ _)
  have H6 : w1.heap[w.heap.size + 1 + 1]? = some (.cells #[.int .i64 tol] 3 (0, 0)) := by rw [hw1]; show _[w.heap.size + 2]? = _; rw [← e2]; exact heap_alloc_new _ _
  clear e1 e2
  have CC := Lib.hid fun (w' : World) (h' : Below w1.heap.size w1 w') => CH w' (Buf.then_ B1 h')
  replace H4 := Lib.hid H4
  replace H5 := Lib.hid H5
  replace H6 := Lib.hid H6
  replace B1 := Lib.hid B1
  clear CH
  go_enter Try.func10, Try.ntmps10
  go_upto_region 1 with fail
  rw [← hw1]
  obtain ⟨p4, hp4⟩ : ∃ z, z = w.heap.size := ⟨_, rfl⟩
  obtain ⟨p5, hp5⟩ : ∃ z, z = w.heap.size + 1 := ⟨_, rfl⟩
  obtain ⟨p6, hp6⟩ : ∃ z, z = w.heap.size + 1 + 1 := ⟨_, rfl⟩
  rw [← hp4] at H4
  rw [← hp5] at H5
  rw [← hp6] at H6
  rw [← hp6, ← hp5, ← hp4]
  have g4 : w.heap.size ≤ p4 ∧ p4 < w1.heap.size := ⟨by omega, (Array.getElem?_eq_some_iff.1 H4.out).1⟩
  have g5 : w.heap.size ≤ p5 ∧ p5 < w1.heap.size := ⟨by omega, (Array.getElem?_eq_some_iff.1 H5.out).1⟩
  have g6 : w.heap.size ≤ p6 ∧ p6 < w1.heap.size := ⟨by omega, (Array.getElem?_eq_some_iff.1 H6.out).1⟩
  clear hw1 hp4 hp5 hp6
  have c6 := cell_of_one H6.out
  go_upto_region 2 with (first | ((with_reducible refine Mid.ldr 36 (.tmp 3) p4 36 (prb R q).toArray H4.out ?_ ?_ ?_ ?_ ?_ ?_); (· rfl); (· rfl); (· first | rfl | simp [Act.eval]); (· exact ⟨_, rfl, rfl⟩); (· kernel_rfl)) | ((with_reducible refine Mid.ldr 28 (.tmp 4) p5 28 (lrow FN lw AA).toArray H5.out ?_ ?_ ?_ ?_ ?_ ?_); (· rfl); (· rfl); (· first | rfl | simp [Act.eval]); (· exact ⟨_, rfl, rfl⟩); (· kernel_rfl)) | (go_at_call 28; refine (CC.out _ (Below.refl _ _)).mono ?_; rintro e w2 ⟨rfl, b2⟩))
  have s2 := b2.size
  have B2 := Lib.hid (Buf.then_ B1.out b2)
  go_wp2_with fail
  go_ret2
  exact ⟨rfl, B2.out⟩
end
end Prf
end Loc
end Go.Proofs.Ytldgihlhioeipaa

/- proof.Check and proof.Make at any location: what they answer. -/
set_option linter.unusedVariables false
set_option linter.unusedSimpArgs false
namespace Go.Proofs.Ytldgihlhioeipaa
open Go.RowKit
namespace Loc
namespace Prf
section
variable {Ak : Ask} {R : Bx} {q : Pq} {FN : St} {lw : Int} {AA : Bx} {tol : Int}
theorem wi_of_in {x y z : Int} (hR : Geo.BV R.a R.b R.c R.d R.e R.f) (h : ¬ inB R (x, y, z)) : Geo.wiV x y z x y z R.a R.b R.c R.d R.e R.f = false := by
  rw [Geo.wi_pt]
  unfold Geo.coV
  unfold inB at h
  rw [decide_eq_false (by simpa using h), Bool.and_false]
/-- Check accepts a location with a list, or it doesn't; if it does, the location is true. -/
theorem check_all {w : World} (P : Pr w Ak R q) (hR : Geo.BV R.a R.b R.c R.d R.e R.f) (hm : ∀ B p, Sb R B → inB B p → Ak.F B ≤ (Ak.G p).2) (FN : St) (lw : Int) (AA : Bx) (t0 : 0 ≤ tol) (t9 : tol ≤ 1000000) {cv : Value} {c : List Int} (hc : Lst w cv c) (hl : c.length ≤ 6001) :
    ∃ r : Int, (∀ w', Below w.heap.size w w' → Calls Try.prog 11 #[.agg (prb R q).toArray, .agg (lrow FN lw AA).toArray, .int .i64 tol, cv] w' fun e w'' => e = .returned (.int .i64 r) ∧ Below w'.heap.size w' w'') ∧
      (r = 0 → 0 ≤ FN.m ∧ FN.m ≤ 1125899906842624 ∧ ∀ p, inB R p → lw ≤ (Ak.G p).2 ∧ FN.m - tol ≤ (Ak.G p).2 ∧ ((Ak.G p).2 < FN.m → Geo.coV AA.a AA.b AA.c AA.d AA.e AA.f p.1 p.2.1 p.2.2 = true)) := by
  by_cases hin : inB R (FN.x, FN.y, FN.z)
  · by_cases hg : Ak.G (FN.x, FN.y, FN.z) = (FN.t, FN.m)
    · have m := P.g0 _ hin
      rw [hg] at m
      have L : Lc Ak R FN lw AA := ⟨hin, hg, m.1, m.2⟩
      by_cases hlm : lw ≤ FN.m
      · obtain ⟨f, hf⟩ : ∃ f : Nat, np R ≤ (f : Int) := ⟨(np R).toNat, by omega⟩
        refine ⟨_, fun w' h' => check_top (P.below h') L hlm t0 t9 (hc.below h') hl f hf, fun hr => ⟨m.1, m.2, ?_⟩⟩
        by_cases ho : rd Ak (prv Ak FN.m lw AA tol) f R c = some []
        · exact rd_sound P.good hm ho
        · rw [if_neg ho] at hr; exact absurd hr (by decide)
      · exact ⟨26, fun w' h' => check_low (P.below h') L hlm t0 t9 (hc.below h') hl, fun hr => absurd hr (by decide)⟩
    · exact ⟨10, fun w' h' => check_bad (fun w'' h'' => check_off P (Buf.then_ h' h'') hin hg t0) (hc.below h') hl, fun hr => absurd hr (by decide)⟩
  · exact ⟨10, fun w' h' => check_bad (fun w'' h'' => check_out P (Buf.then_ h' h'') (wi_of_in hR hin) t0) (hc.below h') hl, fun hr => absurd hr (by decide)⟩
/-- Make gives a certificate that Check accepts, or none. -/
theorem make_all {w : World} (P : Pr w Ak R q) (hR : Geo.BV R.a R.b R.c R.d R.e R.f) (few : 2 * np R - 1 ≤ 6000) (FN : St) (lw : Int) (AA : Bx) (t0 : 0 ≤ tol) (t9 : tol ≤ 1000000) :
    ∃ (er : Int) (c : List Int), c.length ≤ 6000 ∧ Calls Try.prog 10 #[.agg (prb R q).toArray, .agg (lrow FN lw AA).toArray, .int .i64 tol] w (fun e w' => ∃ v, e = .returned (.tuple #[v, .int .i64 er]) ∧ w'.ownsRow w.heap.size 3 1 v c.length (c.map fun z => .int .i64 z) ∧ Below w.heap.size w w') ∧
      (er = 0 → ∀ w', Below w.heap.size w w' → ∀ cv, Lst w' cv c → Calls Try.prog 11 #[.agg (prb R q).toArray, .agg (lrow FN lw AA).toArray, .int .i64 tol, cv] w' fun e w'' => e = .returned (.int .i64 0) ∧ Below w'.heap.size w' w'') := by
  have none_ : ∀ (er : Int), er ≠ 0 → Calls Try.prog 10 #[.agg (prb R q).toArray, .agg (lrow FN lw AA).toArray, .int .i64 tol] w (fun e w' => e = .returned (.tuple #[.slice none 0 0, .int .i64 er]) ∧ Below w.heap.size w w') → ∃ (er : Int) (c : List Int), c.length ≤ 6000 ∧ Calls Try.prog 10 #[.agg (prb R q).toArray, .agg (lrow FN lw AA).toArray, .int .i64 tol] w (fun e w' => ∃ v, e = .returned (.tuple #[v, .int .i64 er]) ∧ w'.ownsRow w.heap.size 3 1 v c.length (c.map fun z => .int .i64 z) ∧ Below w.heap.size w w') ∧
      (er = 0 → ∀ w', Below w.heap.size w w' → ∀ cv, Lst w' cv c → Calls Try.prog 11 #[.agg (prb R q).toArray, .agg (lrow FN lw AA).toArray, .int .i64 tol, cv] w' fun e w'' => e = .returned (.int .i64 0) ∧ Below w'.heap.size w' w'') := fun er h0 h =>
    ⟨er, [], by decide, h.mono (by rintro e w' ⟨rfl, hb⟩; exact ⟨_, rfl, World.ownsRow_nil _ _ _ _, hb⟩), fun q => absurd q h0⟩
  by_cases hin : inB R (FN.x, FN.y, FN.z)
  · by_cases hg : Ak.G (FN.x, FN.y, FN.z) = (FN.t, FN.m)
    · have m := P.g0 _ hin
      rw [hg] at m
      have L : Lc Ak R FN lw AA := ⟨hin, hg, m.1, m.2⟩
      by_cases hlm : lw ≤ FN.m
      · obtain ⟨f, hf⟩ : ∃ f : Nat, np R ≤ (f : Int) := ⟨(np R).toNat, by omega⟩
        cases hc : cert Ak (prv Ak FN.m lw AA tol) f R with
        | none => exact none_ 26 (by decide) (make_none P L hlm t0 t9 f hf hc few)
        | some c =>
          have hl := cert_len P.good f R P.good.rv hf c hc
          refine ⟨0, c, by omega, make_top P L hlm t0 t9 f hf hc (by omega), fun _ w' h' cv hv => ?_⟩
          have := check_top (P.below h') L hlm t0 t9 hv (by omega) f hf
          have e := rd_cert P.good (pv' := prv Ak FN.m lw AA tol) (fun B _ h => h) f R P.good.rv hf c hc []
          rw [List.append_nil] at e
          rw [e, if_pos rfl] at this
          exact this
      · exact none_ 26 (by decide) (make_low P L hlm t0 t9)
    · exact none_ 10 (by decide) (make_bad fun w'' h'' => check_off P h'' hin hg t0)
  · exact none_ 10 (by decide) (make_bad fun w'' h'' => check_out P h'' (wi_of_in hR hin) t0)
end
end Prf
end Loc
end Go.Proofs.Ytldgihlhioeipaa
