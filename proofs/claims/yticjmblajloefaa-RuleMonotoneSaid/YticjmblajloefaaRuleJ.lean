/- The examples of the chapter on rules. -/
import Derived.Test.YticjmblajloefaaRuleF
import Derived.Test.YticjmblajloefaaRuleI
set_option linter.unusedVariables false
set_option linter.unusedSimpArgs false
namespace Go.Proofs.Yticjmblajloefaa
open Go.RowKit
namespace Ru
def sM (j : Nat) : Int := if j = 0 then 300 else 500
def sP (j : Nat) : Int := if j = 0 then 3 else 5
def sF (j : Nat) : Int := 100
def sD (j : Nat) : Int := 60
theorem rw_sample {w : World} {g : Nat} (h : w.heap[g]? = some (.cells #[.int .i64 300, .int .i64 3, .int .i64 100, .int .i64 60, .int .i64 500, .int .i64 5, .int .i64 100, .int .i64 60] 48 (0, 0))) : RW w g 2 2 sM sP sF sD := by
  refine ⟨by omega, by omega, by omega, by decide, (Array.getElem?_eq_some_iff.1 h).1, fun j hj => ?_, fun j hj => ?_, fun j hj => ?_, fun j hj => ?_, fun j hj => ?_⟩
  all_goals rcases j with _ | _ | j
  all_goals first | omega | exact cell_of_row w g _ _ _ _ h | exact ⟨by decide, by decide, by decide, by decide, by decide, by decide, by decide, by decide⟩
set_option maxRecDepth 100000 in
set_option maxHeartbeats 8000000 in
theorem sample_any (w : World) :
    Calls Try.prog 22 #[] w fun e w' => (∃ gr gp : Nat, e = .returned (.tuple #[.agg #[.slice (some ⟨gr, 0, none⟩) 2 2, .int .i64 0, .int .i64 0], .agg #[.string ⟨#[]⟩, .string ⟨#[]⟩, .string ⟨#[]⟩, .string ⟨#[]⟩, .int .i64 0, .int .i64 0, .int .i64 0, .int .i64 0, .int .i64 0, .slice (some ⟨gp, 0, none⟩) 5 5, .int .i64 0, .int .i64 0, .int .i64 0, .int .i64 1000, .int .i64 0, .int .i64 0, .int .i64 0, .int .i64 0, .int .i64 0, .int .i64 0, .int .i64 0, .int .i64 0, .int .i64 480, .int .i64 520, .int .i64 1]]) ∧ RW w' gr 2 2 sM sP sF sD) ∧ Below w.heap.size w w' := by
  obtain ⟨i0, hi, hz0, hz1, hz2⟩ : ∃ i, Try.prog.info? 32 = some i ∧ i.zero = some (.agg #[.string ⟨#[]⟩, .string ⟨#[]⟩, .string ⟨#[]⟩, .string ⟨#[]⟩, .int .i64 0, .int .i64 0, .int .i64 0, .int .i64 0, .int .i64 0]) ∧ i.size = 9 ∧ i.bytes = 104 := ⟨_, rfl, by kernel_rfl, by kernel_rfl, by kernel_rfl⟩
  go_enter Try.func22, Try.ntmps22
  obtain ⟨wA, hwA⟩ : ∃ wA, wA = (((w.alloc (.cells #[.slice none 0 0, .int .i64 0, .int .i64 0] 27)).alloc (.cells #[.string ⟨#[]⟩, .string ⟨#[]⟩, .string ⟨#[]⟩, .string ⟨#[]⟩, .int .i64 0, .int .i64 0, .int .i64 0, .int .i64 0, .int .i64 0, .slice none 0 0, .int .i64 0, .int .i64 0, .int .i64 0, .int .i64 0, .int .i64 0, .int .i64 0, .int .i64 0, .int .i64 0, .int .i64 0, .int .i64 0, .int .i64 0, .int .i64 0, .int .i64 0, .int .i64 0, .int .i64 0] 45)).alloc (.cells #[.int .i64 300, .int .i64 3, .int .i64 100, .int .i64 60, .int .i64 500, .int .i64 5, .int .i64 100, .int .i64 60] 48)).alloc (.cells #[.slice (some ⟨w.heap.size + 1 + 1, 0, none⟩) 2 2, .int .i64 0, .int .i64 0] 27) := ⟨_, rfl⟩
  have q0 : wA.heap[w.heap.size]? = some (.cells #[.slice none 0 0, .int .i64 0, .int .i64 0] 27 (0, 0)) := by rw [hwA]; exact Geo.blk_alloc (Geo.blk_alloc (Geo.blk_alloc (Geo.blk_new _ _) _) _) _
  have q1 : wA.heap[w.heap.size + 1]? = some (.cells #[.string ⟨#[]⟩, .string ⟨#[]⟩, .string ⟨#[]⟩, .string ⟨#[]⟩, .int .i64 0, .int .i64 0, .int .i64 0, .int .i64 0, .int .i64 0, .slice none 0 0, .int .i64 0, .int .i64 0, .int .i64 0, .int .i64 0, .int .i64 0, .int .i64 0, .int .i64 0, .int .i64 0, .int .i64 0, .int .i64 0, .int .i64 0, .int .i64 0, .int .i64 0, .int .i64 0, .int .i64 0] 45 (0, 0)) := by rw [hwA]; exact Geo.blk_alloc (Geo.blk_alloc (Geo.blk_new1 _ _ _) _) _
  have q2 : wA.heap[w.heap.size + 1 + 1]? = some (.cells #[.int .i64 300, .int .i64 3, .int .i64 100, .int .i64 60, .int .i64 500, .int .i64 5, .int .i64 100, .int .i64 60] 48 (0, 0)) := by rw [hwA]; exact Geo.blk_alloc (Geo.blk_new2 _ _ _ _) _
  have q3 : wA.heap[w.heap.size + 1 + 1 + 1]? = some (.cells #[.slice (some ⟨w.heap.size + 1 + 1, 0, none⟩) 2 2, .int .i64 0, .int .i64 0] 27 (0, 0)) := by
    rw [hwA]
    have h := Geo.blk_new (((w.alloc (.cells #[.slice none 0 0, .int .i64 0, .int .i64 0] 27)).alloc (.cells #[.string ⟨#[]⟩, .string ⟨#[]⟩, .string ⟨#[]⟩, .string ⟨#[]⟩, .int .i64 0, .int .i64 0, .int .i64 0, .int .i64 0, .int .i64 0, .slice none 0 0, .int .i64 0, .int .i64 0, .int .i64 0, .int .i64 0, .int .i64 0, .int .i64 0, .int .i64 0, .int .i64 0, .int .i64 0, .int .i64 0, .int .i64 0, .int .i64 0, .int .i64 0, .int .i64 0, .int .i64 0] 45)).alloc (.cells #[.int .i64 300, .int .i64 3, .int .i64 100, .int .i64 60, .int .i64 500, .int .i64 5, .int .i64 100, .int .i64 60] 48)) (.cells #[.slice (some ⟨w.heap.size + 1 + 1, 0, none⟩) 2 2, .int .i64 0, .int .i64 0] 27)
    simpa using h
  have zA : wA.heap.size = w.heap.size + 1 + 1 + 1 + 1 := by rw [hwA]; simp
  have BA : Below w.heap.size w wA := by rw [hwA]; exact (((((Below.refl w.heap.size w).alloc (Nat.le_refl _) _).alloc (by simp) _).alloc (by simp; omega) _).alloc (by simp; omega) _)
  go_upto_region 2 with fail
  rw [← hwA]
  clear hwA
  replace BA := Lib.hid BA
  replace q0 := Lib.hid q0
  replace q1 := Lib.hid q1
  replace q2 := Lib.hid q2
  replace q3 := Lib.hid q3
  go_upto_region 3 with (first | (refine wpList_make_full wA rfl (.const (.int .i64 5)) (.const (.int .i64 5)) 33 rfl wA.heap.size 32 i0 (.agg #[.string ⟨#[]⟩, .string ⟨#[]⟩, .string ⟨#[]⟩, .string ⟨#[]⟩, .int .i64 0, .int .i64 0, .int .i64 0, .int .i64 0, .int .i64 0]) 9 Try.underlying33 hi hz0 hz1 .i64 .i64 5 5 5 rfl rfl rfl rfl (by rw [hz2]; decide) (by decide) (Nat.le_refl _) (fun w1 hrow hgr => ?_)) | ((with_reducible refine Mid.str 45 (.tmp 3) (.tmp 11) w1.heap.size 45 #[.string ⟨#[]⟩, .string ⟨#[]⟩, .string ⟨#[]⟩, .string ⟨#[]⟩, .int .i64 0, .int .i64 0, .int .i64 0, .int .i64 0, .int .i64 0, .slice none 0 0, .int .i64 0, .int .i64 0, .int .i64 0, .int .i64 0, .int .i64 0, .int .i64 0, .int .i64 0, .int .i64 0, .int .i64 0, .int .i64 0, .int .i64 0, .int .i64 0, .int .i64 0, .int .i64 0, .int .i64 0] #[.string ⟨#[]⟩, .string ⟨#[]⟩, .string ⟨#[]⟩, .string ⟨#[]⟩, .int .i64 0, .int .i64 0, .int .i64 0, .int .i64 0, .int .i64 0, .slice (some ⟨wA.heap.size, 0, none⟩) 5 5, .int .i64 0, .int .i64 0, .int .i64 0, .int .i64 0, .int .i64 0, .int .i64 0, .int .i64 0, .int .i64 0, .int .i64 0, .int .i64 0, .int .i64 0, .int .i64 0, .int .i64 480, .int .i64 520, .int .i64 1] (Geo.blk_new w1 _) ?_ ?_ ?_ ?_ ?_ ?_ ?_ ?_); (· rfl); (· rfl); (· first | rfl | simp [Act.eval]); (· first | rfl | simp [Act.eval]); (· kernel_rfl); (· rfl); (· simp [Value.oneCell'])))
  have bA : w1.heap.size ≥ wA.heap.size := hgr.size
  have BB := Lib.hid (show Below w.heap.size w ((w1.alloc (.cells #[.string ⟨#[]⟩, .string ⟨#[]⟩, .string ⟨#[]⟩, .string ⟨#[]⟩, .int .i64 0, .int .i64 0, .int .i64 0, .int .i64 0, .int .i64 0, .slice none 0 0, .int .i64 0, .int .i64 0, .int .i64 0, .int .i64 0, .int .i64 0, .int .i64 0, .int .i64 0, .int .i64 0, .int .i64 0, .int .i64 0, .int .i64 0, .int .i64 0, .int .i64 0, .int .i64 0, .int .i64 0] 45)).setRow w1.heap.size #[.string ⟨#[]⟩, .string ⟨#[]⟩, .string ⟨#[]⟩, .string ⟨#[]⟩, .int .i64 0, .int .i64 0, .int .i64 0, .int .i64 0, .int .i64 0, .slice (some ⟨wA.heap.size, 0, none⟩) 5 5, .int .i64 0, .int .i64 0, .int .i64 0, .int .i64 0, .int .i64 0, .int .i64 0, .int .i64 0, .int .i64 0, .int .i64 0, .int .i64 0, .int .i64 0, .int .i64 0, .int .i64 480, .int .i64 520, .int .i64 1]) from Mid.below_row ((BA.out.trans ⟨hgr.os, hgr.tape, hgr.output, hgr.size, fun k hk => hgr.block k (by omega) (by simp)⟩).alloc (by omega) _) _ _ (by omega))
  have pE := Lib.hid (show ((w1.alloc (.cells #[.string ⟨#[]⟩, .string ⟨#[]⟩, .string ⟨#[]⟩, .string ⟨#[]⟩, .int .i64 0, .int .i64 0, .int .i64 0, .int .i64 0, .int .i64 0, .slice none 0 0, .int .i64 0, .int .i64 0, .int .i64 0, .int .i64 0, .int .i64 0, .int .i64 0, .int .i64 0, .int .i64 0, .int .i64 0, .int .i64 0, .int .i64 0, .int .i64 0, .int .i64 0, .int .i64 0, .int .i64 0] 45)).setRow w1.heap.size #[.string ⟨#[]⟩, .string ⟨#[]⟩, .string ⟨#[]⟩, .string ⟨#[]⟩, .int .i64 0, .int .i64 0, .int .i64 0, .int .i64 0, .int .i64 0, .slice (some ⟨wA.heap.size, 0, none⟩) 5 5, .int .i64 0, .int .i64 0, .int .i64 0, .int .i64 0, .int .i64 0, .int .i64 0, .int .i64 0, .int .i64 0, .int .i64 0, .int .i64 0, .int .i64 0, .int .i64 0, .int .i64 480, .int .i64 520, .int .i64 1]).heap[w1.heap.size]? = some (.cells #[.string ⟨#[]⟩, .string ⟨#[]⟩, .string ⟨#[]⟩, .string ⟨#[]⟩, .int .i64 0, .int .i64 0, .int .i64 0, .int .i64 0, .int .i64 0, .slice (some ⟨wA.heap.size, 0, none⟩) 5 5, .int .i64 0, .int .i64 0, .int .i64 0, .int .i64 0, .int .i64 0, .int .i64 0, .int .i64 0, .int .i64 0, .int .i64 0, .int .i64 0, .int .i64 0, .int .i64 0, .int .i64 480, .int .i64 520, .int .i64 1] 45 (0, 0)) from setRow_heap _ _ _ _ _ _ (Geo.blk_new w1 _))
  have kk : ∀ k, k < wA.heap.size → ((w1.alloc (.cells #[.string ⟨#[]⟩, .string ⟨#[]⟩, .string ⟨#[]⟩, .string ⟨#[]⟩, .int .i64 0, .int .i64 0, .int .i64 0, .int .i64 0, .int .i64 0, .slice none 0 0, .int .i64 0, .int .i64 0, .int .i64 0, .int .i64 0, .int .i64 0, .int .i64 0, .int .i64 0, .int .i64 0, .int .i64 0, .int .i64 0, .int .i64 0, .int .i64 0, .int .i64 0, .int .i64 0, .int .i64 0] 45)).setRow w1.heap.size #[.string ⟨#[]⟩, .string ⟨#[]⟩, .string ⟨#[]⟩, .string ⟨#[]⟩, .int .i64 0, .int .i64 0, .int .i64 0, .int .i64 0, .int .i64 0, .slice (some ⟨wA.heap.size, 0, none⟩) 5 5, .int .i64 0, .int .i64 0, .int .i64 0, .int .i64 0, .int .i64 0, .int .i64 0, .int .i64 0, .int .i64 0, .int .i64 0, .int .i64 0, .int .i64 0, .int .i64 0, .int .i64 480, .int .i64 520, .int .i64 1]).heap[k]? = wA.heap[k]? := fun k hk => (setRow_other _ _ _ _ (by omega)).trans (((Geo.new_block (w := w1) _).block k (by omega)).trans (hgr.block k hk (by simp)))
  replace q0 := Lib.hid ((kk _ (by omega)).trans q0.out)
  replace q1 := Lib.hid ((kk _ (by omega)).trans q1.out)
  replace q2 := Lib.hid ((kk _ (by omega)).trans q2.out)
  replace q3 := Lib.hid ((kk _ (by omega)).trans q3.out)
  clear kk BA hrow hgr
  generalize ((w1.alloc (.cells #[.string ⟨#[]⟩, .string ⟨#[]⟩, .string ⟨#[]⟩, .string ⟨#[]⟩, .int .i64 0, .int .i64 0, .int .i64 0, .int .i64 0, .int .i64 0, .slice none 0 0, .int .i64 0, .int .i64 0, .int .i64 0, .int .i64 0, .int .i64 0, .int .i64 0, .int .i64 0, .int .i64 0, .int .i64 0, .int .i64 0, .int .i64 0, .int .i64 0, .int .i64 0, .int .i64 0, .int .i64 0] 45)).setRow w1.heap.size #[.string ⟨#[]⟩, .string ⟨#[]⟩, .string ⟨#[]⟩, .string ⟨#[]⟩, .int .i64 0, .int .i64 0, .int .i64 0, .int .i64 0, .int .i64 0, .slice (some ⟨wA.heap.size, 0, none⟩) 5 5, .int .i64 0, .int .i64 0, .int .i64 0, .int .i64 0, .int .i64 0, .int .i64 0, .int .i64 0, .int .i64 0, .int .i64 0, .int .i64 0, .int .i64 0, .int .i64 0, .int .i64 480, .int .i64 520, .int .i64 1]) = wB at *
  have c13 := cell_of_row wB w1.heap.size 13 _ _ _ pE.out
  have f13 := frozen_of_row wB w1.heap.size 13 _ _ pE.out
  generalize w1.heap.size = be at *
  have pE' := Lib.hid (show (wB.setCell ⟨be, 13, none⟩ (.int .i64 1000)).heap[be]? = some (.cells #[.string ⟨#[]⟩, .string ⟨#[]⟩, .string ⟨#[]⟩, .string ⟨#[]⟩, .int .i64 0, .int .i64 0, .int .i64 0, .int .i64 0, .int .i64 0, .slice (some ⟨wA.heap.size, 0, none⟩) 5 5, .int .i64 0, .int .i64 0, .int .i64 0, .int .i64 1000, .int .i64 0, .int .i64 0, .int .i64 0, .int .i64 0, .int .i64 0, .int .i64 0, .int .i64 0, .int .i64 0, .int .i64 480, .int .i64 520, .int .i64 1] 45 (0, 0)) from (heap_setCell_same wB be 13 _ _ (.int .i64 1000) pE.out).trans (by kernel_rfl))
  have kk : ∀ k, k < wA.heap.size → (wB.setCell ⟨be, 13, none⟩ (.int .i64 1000)).heap[k]? = wB.heap[k]? := fun k hk => Below.heap_setCell wB _ _ k (by show k ≠ be; omega)
  replace q0 := Lib.hid ((kk _ (by omega)).trans q0.out)
  replace q1 := Lib.hid ((kk _ (by omega)).trans q1.out)
  replace q2 := Lib.hid ((kk _ (by omega)).trans q2.out)
  replace q3 := Lib.hid ((kk _ (by omega)).trans q3.out)
  replace BB := Lib.hid (BB.out.setCell (p := ⟨be, 13, none⟩) (by show w.heap.size ≤ be; omega) (.int .i64 1000))
  clear kk pE
  go_upto_region 4 with fail
  clear c13 f13
  generalize wB.setCell ⟨be, 13, none⟩ (.int .i64 1000) = wC at *
  refine wp_region_noPanic ?_
  refine wp_region_any (by kernel_rfl) ?_
  obtain ⟨b0, hb0⟩ : ∃ b0, b0 = w.heap.size := ⟨_, rfl⟩
  refine Inv.wpAny_inv (fun k => k == 3) [15, 16] (fun w' => ∃ x y z : Value, w'.heap[w.heap.size]? = some (.cells #[x, y, z] 27 (0, 0)) ∧ w'.heap[w.heap.size + 1]? = some (.cells #[.string ⟨#[]⟩, .string ⟨#[]⟩, .string ⟨#[]⟩, .string ⟨#[]⟩, .int .i64 0, .int .i64 0, .int .i64 0, .int .i64 0, .int .i64 0, .slice none 0 0, .int .i64 0, .int .i64 0, .int .i64 0, .int .i64 0, .int .i64 0, .int .i64 0, .int .i64 0, .int .i64 0, .int .i64 0, .int .i64 0, .int .i64 0, .int .i64 0, .int .i64 0, .int .i64 0, .int .i64 0] 45 (0, 0)) ∧ w'.heap[w.heap.size + 1 + 1]? = some (.cells #[.int .i64 300, .int .i64 3, .int .i64 100, .int .i64 60, .int .i64 500, .int .i64 5, .int .i64 100, .int .i64 60] 48 (0, 0)) ∧ w'.heap[w.heap.size + 1 + 1 + 1]? = some (.cells #[.slice (some ⟨w.heap.size + 1 + 1, 0, none⟩) 2 2, .int .i64 0, .int .i64 0] 27 (0, 0)) ∧ w'.heap[be]? = some (.cells #[.string ⟨#[]⟩, .string ⟨#[]⟩, .string ⟨#[]⟩, .string ⟨#[]⟩, .int .i64 0, .int .i64 0, .int .i64 0, .int .i64 0, .int .i64 0, .slice (some ⟨wA.heap.size, 0, none⟩) 5 5, .int .i64 0, .int .i64 0, .int .i64 0, .int .i64 1000, .int .i64 0, .int .i64 0, .int .i64 0, .int .i64 0, .int .i64 0, .int .i64 0, .int .i64 0, .int .i64 0, .int .i64 480, .int .i64 520, .int .i64 1] 45 (0, 0)) ∧ Below w.heap.size w w') (fun j w1 w2 => j ≠ 2 → w2 = w1) (fun k => ([fun v_ w_ => v_ = .agg #[.slice (some ⟨w.heap.size + 1 + 1, 0, none⟩) 2 2, .int .i64 0, .int .i64 0], fun v_ w_ => v_ = .agg #[.string ⟨#[]⟩, .string ⟨#[]⟩, .string ⟨#[]⟩, .string ⟨#[]⟩, .int .i64 0, .int .i64 0, .int .i64 0, .int .i64 0, .int .i64 0, .slice (some ⟨wA.heap.size, 0, none⟩) 5 5, .int .i64 0, .int .i64 0, .int .i64 0, .int .i64 1000, .int .i64 0, .int .i64 0, .int .i64 0, .int .i64 0, .int .i64 0, .int .i64 0, .int .i64 0, .int .i64 0, .int .i64 480, .int .i64 520, .int .i64 1], fun v_ w_ => w_.heap[b0]? = some (.cells #[.slice (some ⟨w.heap.size + 1 + 1, 0, none⟩) 2 2, .int .i64 0, .int .i64 0] 27 (0, 0)), fun v_ w_ => True] : List (Value → World → Prop)).getD k (fun _ _ => True)) _ (fun σ => by simp only [Inv.putAll, List.foldl_cons, List.foldl_nil, Act.put, List.setIfInBounds_toArray, List.set_cons_zero, List.set_cons_succ]; rfl) (by kernel_rfl) (by kernel_rfl) ?_ ⟨_, _, _, q0.out, q1.out, q2.out, q3.out, pE'.out, BB.out.drew⟩ ?_ ?_ 1 #[true, true, true, false] (by kernel_rfl) (by kernel_rfl) ?_
  · intro j k v w1 w2 hjk hv hr
    rcases k with _ | k
    · exact hv
    rcases k with _ | k
    · exact hv
    rcases k with _ | k
    · exact by rw [hr hjk]; exact hv
    rcases k with _ | k
    · exact hv
    · exact hv
  · intro k t hl hd
    rcases k with _ | k
    · exact absurd hl (by decide +kernel)
    rcases k with _ | k
    · exact absurd hl (by decide +kernel)
    rcases k with _ | k
    · exact absurd hl (by decide +kernel)
    rcases k with _ | k
    · exact absurd hl (by decide +kernel)
    · simp at hd
  · show Inv.Steps _ _ _ _ _ _ _ _ [0, 1, 2]
    refine Inv.Steps.go (by decide) (by rfl) (fun σ wx hw hd K hK => ?_) ?_
    · simp only [List.getElem_toArray, List.getElem_cons_zero, List.getElem_cons_succ, Act.put, List.setIfInBounds_toArray, List.set_cons_zero, List.set_cons_succ] at hK ⊢
      obtain ⟨x, y, z, k0, k1, k2, k3, k4, k5⟩ := hw
      refine wp_load_row 27 (.tmp 2) rfl (w.heap.size + 1 + 1 + 1) rfl 27 #[.slice (some ⟨w.heap.size + 1 + 1, 0, none⟩) 2 2, .int .i64 0, .int .i64 0] (0, 0) _ k3 rfl rfl rfl ?_
      simp only [Act.put, List.setIfInBounds_toArray, List.set_cons_zero, List.set_cons_succ]
      exact hK.out _ _ ⟨x, y, z, k0, k1, k2, k3, k4, k5⟩ (fun _ => rfl) (rfl)
    refine Inv.Steps.go (by decide) (by rfl) (fun σ wx hw hd K hK => ?_) ?_
    · simp only [List.getElem_toArray, List.getElem_cons_zero, List.getElem_cons_succ, Act.put, List.setIfInBounds_toArray, List.set_cons_zero, List.set_cons_succ] at hK ⊢
      obtain ⟨x, y, z, k0, k1, k2, k3, k4, k5⟩ := hw
      refine wp_load_row 45 (.tmp 3) rfl be rfl 45 #[.string ⟨#[]⟩, .string ⟨#[]⟩, .string ⟨#[]⟩, .string ⟨#[]⟩, .int .i64 0, .int .i64 0, .int .i64 0, .int .i64 0, .int .i64 0, .slice (some ⟨wA.heap.size, 0, none⟩) 5 5, .int .i64 0, .int .i64 0, .int .i64 0, .int .i64 1000, .int .i64 0, .int .i64 0, .int .i64 0, .int .i64 0, .int .i64 0, .int .i64 0, .int .i64 0, .int .i64 0, .int .i64 480, .int .i64 520, .int .i64 1] (0, 0) _ k4 rfl rfl rfl ?_
      simp only [Act.put, List.setIfInBounds_toArray, List.set_cons_zero, List.set_cons_succ]
      exact hK.out _ _ ⟨x, y, z, k0, k1, k2, k3, k4, k5⟩ (fun _ => rfl) (rfl)
    refine Inv.Steps.go (by decide) (by rfl) (fun σ wx hw hd K hK => ?_) ?_
    · obtain e15 : (σ 15) = .agg #[.slice (some ⟨w.heap.size + 1 + 1, 0, none⟩) 2 2, .int .i64 0, .int .i64 0] := hd 0 (some 15) (by kernel_rfl) (by rfl)
      simp only [List.getElem_toArray, List.getElem_cons_zero, List.getElem_cons_succ, Act.put, List.setIfInBounds_toArray, List.set_cons_zero, List.set_cons_succ, e15] at hK ⊢
      obtain ⟨x, y, z, k0, k1, k2, k3, k4, k5⟩ := hw
      refine wp_store_row 27 (.tmp 0) (.tmp 15) rfl w.heap.size #[.slice (some ⟨w.heap.size + 1 + 1, 0, none⟩) 2 2, .int .i64 0, .int .i64 0] rfl rfl 27 #[x, y, z] k0 rfl rfl (by simp [Value.oneCell']) ?_
      exact hK.out undef _ ⟨_, _, _, setRow_heap _ _ _ _ _ _ k0, (setRow_other _ _ _ _ (by omega)).trans k1, (setRow_other _ _ _ _ (by omega)).trans k2, (setRow_other _ _ _ _ (by omega)).trans k3, (setRow_other _ _ _ _ (by omega)).trans k4, Mid.below_row k5 _ _ (Nat.le_refl _)⟩ (fun h => absurd rfl h) ((by rw [hb0]; exact setRow_heap _ _ _ _ _ _ k0))
    exact Inv.Steps.nil
  · intro σ wx hw hd
    obtain e16 : (σ 16) = .agg #[.string ⟨#[]⟩, .string ⟨#[]⟩, .string ⟨#[]⟩, .string ⟨#[]⟩, .int .i64 0, .int .i64 0, .int .i64 0, .int .i64 0, .int .i64 0, .slice (some ⟨wA.heap.size, 0, none⟩) 5 5, .int .i64 0, .int .i64 0, .int .i64 0, .int .i64 1000, .int .i64 0, .int .i64 0, .int .i64 0, .int .i64 0, .int .i64 0, .int .i64 0, .int .i64 0, .int .i64 0, .int .i64 480, .int .i64 520, .int .i64 1] := hd 1 (some 16) (by rfl) (by rfl)
    obtain p0 : wx.heap[b0]? = some (.cells #[.slice (some ⟨w.heap.size + 1 + 1, 0, none⟩) 2 2, .int .i64 0, .int .i64 0] 27 (0, 0)) := hd 2 (none) (by rfl) (by rfl)
    obtain ⟨x, y, z, k0, k1, k2, k3, k4, k5⟩ := hw
    refine Inv.one (i := 3) (by decide) (by kernel_rfl) (by rfl) (fun K hK => ?_)
    simp only [List.getElem_toArray, List.getElem_cons_zero, List.getElem_cons_succ, Act.put, List.setIfInBounds_toArray, List.set_cons_zero, List.set_cons_succ, e16] at hK ⊢
    refine wp_store_row 45 (.tmp 1) (.tmp 16) rfl (w.heap.size + 1) #[.string ⟨#[]⟩, .string ⟨#[]⟩, .string ⟨#[]⟩, .string ⟨#[]⟩, .int .i64 0, .int .i64 0, .int .i64 0, .int .i64 0, .int .i64 0, .slice (some ⟨wA.heap.size, 0, none⟩) 5 5, .int .i64 0, .int .i64 0, .int .i64 0, .int .i64 1000, .int .i64 0, .int .i64 0, .int .i64 0, .int .i64 0, .int .i64 0, .int .i64 0, .int .i64 0, .int .i64 0, .int .i64 480, .int .i64 520, .int .i64 1] rfl rfl 45 #[.string ⟨#[]⟩, .string ⟨#[]⟩, .string ⟨#[]⟩, .string ⟨#[]⟩, .int .i64 0, .int .i64 0, .int .i64 0, .int .i64 0, .int .i64 0, .slice none 0 0, .int .i64 0, .int .i64 0, .int .i64 0, .int .i64 0, .int .i64 0, .int .i64 0, .int .i64 0, .int .i64 0, .int .i64 0, .int .i64 0, .int .i64 0, .int .i64 0, .int .i64 0, .int .i64 0, .int .i64 0] k1 rfl rfl (by simp [Value.oneCell']) ?_
    refine hK.out _ _ (Inv.done (by kernel_rfl) (NoPanic.normal ?_))
    clear hK K
    have hP := (setRow_other wx (w.heap.size + 1) w.heap.size #[.string ⟨#[]⟩, .string ⟨#[]⟩, .string ⟨#[]⟩, .string ⟨#[]⟩, .int .i64 0, .int .i64 0, .int .i64 0, .int .i64 0, .int .i64 0, .slice (some ⟨wA.heap.size, 0, none⟩) 5 5, .int .i64 0, .int .i64 0, .int .i64 0, .int .i64 1000, .int .i64 0, .int .i64 0, .int .i64 0, .int .i64 0, .int .i64 0, .int .i64 0, .int .i64 0, .int .i64 0, .int .i64 480, .int .i64 520, .int .i64 1] (by omega)).trans (hb0 ▸ p0)
    have hE := setRow_heap wx (w.heap.size + 1) _ #[.string ⟨#[]⟩, .string ⟨#[]⟩, .string ⟨#[]⟩, .string ⟨#[]⟩, .int .i64 0, .int .i64 0, .int .i64 0, .int .i64 0, .int .i64 0, .slice (some ⟨wA.heap.size, 0, none⟩) 5 5, .int .i64 0, .int .i64 0, .int .i64 0, .int .i64 1000, .int .i64 0, .int .i64 0, .int .i64 0, .int .i64 0, .int .i64 0, .int .i64 0, .int .i64 0, .int .i64 0, .int .i64 480, .int .i64 520, .int .i64 1] _ _ k1
    have hR := (setRow_other wx (w.heap.size + 1) (w.heap.size + 1 + 1) #[.string ⟨#[]⟩, .string ⟨#[]⟩, .string ⟨#[]⟩, .string ⟨#[]⟩, .int .i64 0, .int .i64 0, .int .i64 0, .int .i64 0, .int .i64 0, .slice (some ⟨wA.heap.size, 0, none⟩) 5 5, .int .i64 0, .int .i64 0, .int .i64 0, .int .i64 1000, .int .i64 0, .int .i64 0, .int .i64 0, .int .i64 0, .int .i64 0, .int .i64 0, .int .i64 0, .int .i64 0, .int .i64 480, .int .i64 520, .int .i64 1] (by omega)).trans k2
    have hB := Mid.below_row k5 (w.heap.size + 1) #[.string ⟨#[]⟩, .string ⟨#[]⟩, .string ⟨#[]⟩, .string ⟨#[]⟩, .int .i64 0, .int .i64 0, .int .i64 0, .int .i64 0, .int .i64 0, .slice (some ⟨wA.heap.size, 0, none⟩) 5 5, .int .i64 0, .int .i64 0, .int .i64 0, .int .i64 1000, .int .i64 0, .int .i64 0, .int .i64 0, .int .i64 0, .int .i64 0, .int .i64 0, .int .i64 0, .int .i64 0, .int .i64 480, .int .i64 520, .int .i64 1] (by omega)
    generalize wx.setRow (w.heap.size + 1) #[.string ⟨#[]⟩, .string ⟨#[]⟩, .string ⟨#[]⟩, .string ⟨#[]⟩, .int .i64 0, .int .i64 0, .int .i64 0, .int .i64 0, .int .i64 0, .slice (some ⟨wA.heap.size, 0, none⟩) 5 5, .int .i64 0, .int .i64 0, .int .i64 0, .int .i64 1000, .int .i64 0, .int .i64 0, .int .i64 0, .int .i64 0, .int .i64 0, .int .i64 0, .int .i64 0, .int .i64 0, .int .i64 480, .int .i64 520, .int .i64 1] = wz at *
    go_wp2_with fail
    refine bodyPost_ret (Geo.results_two_rows rfl _ _ w.heap.size (w.heap.size + 1) 27 45 #[.slice (some ⟨w.heap.size + 1 + 1, 0, none⟩) 2 2, .int .i64 0, .int .i64 0] #[.string ⟨#[]⟩, .string ⟨#[]⟩, .string ⟨#[]⟩, .string ⟨#[]⟩, .int .i64 0, .int .i64 0, .int .i64 0, .int .i64 0, .int .i64 0, .slice (some ⟨wA.heap.size, 0, none⟩) 5 5, .int .i64 0, .int .i64 0, .int .i64 0, .int .i64 1000, .int .i64 0, .int .i64 0, .int .i64 0, .int .i64 0, .int .i64 0, .int .i64 0, .int .i64 0, .int .i64 0, .int .i64 480, .int .i64 520, .int .i64 1] _ _ _ _ rfl hP rfl ?_ rfl rfl hE rfl ?_ rfl) rfl ?_
    · rfl
    · rfl
    · refine ⟨?_, hB⟩
      first | exact ⟨w.heap.size + 1 + 1, ⟨wA.heap.size, rfl⟩, rw_sample hR⟩ | exact ⟨w.heap.size + 1 + 1, wA.heap.size, rfl, rw_sample hR⟩
end Ru
end Go.Proofs.Yticjmblajloefaa
