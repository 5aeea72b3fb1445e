/- The detectors that the dice make. -/
import Derived.Test.YtbmcmiggifknfaaDoorDetA
import Derived.Test.YtbmcmiggifknfaaDoorRows
import Derived.Deep.DeepCutAuto
import Derived.ProofKit
import Derived.Laws.Tables
import Derived.Laws.Rows
import Derived.Laws.ResultCell
set_option linter.unusedVariables false
set_option linter.unusedSimpArgs false
namespace Go.Proofs.YtbmcmiggifknfaaDoor
open Go.RowKit Wi Dice
namespace Det
/-- What Detector returns. -/
def Detd (e : Ending) : Prop := ∃ (S L : Nat) (on off : Int), e = .returned (.agg #[.int .i64 S, .int .i64 L, .int .i64 on, .int .i64 off]) ∧ DG ⟨S, L, on, off⟩ ∧ L ≤ 10
theorem st4 {w : World} {g : Nat} {x y z t0 : Value} {t : TypeId} (h : w.heap[g]? = some (.cells #[x, y, z, t0] t (0, 0))) (u v s r : Value) :
    ((((w.setCell ⟨g, 0, none⟩ u).setCell ⟨g, 1, none⟩ v).setCell ⟨g, 2, none⟩ s).setCell ⟨g, 3, none⟩ r).heap[g]? = some (.cells #[u, v, s, r] t (0, 0)) := by
  have k0 := (heap_setCell_same w g 0 _ _ u h).trans (show _ = some (.cells #[u, y, z, t0] t (0, 0)) from rfl)
  have k1 := (heap_setCell_same (w.setCell ⟨g, 0, none⟩ u) g 1 _ _ v k0).trans (show _ = some (.cells #[u, v, z, t0] t (0, 0)) from rfl)
  have k2 := (heap_setCell_same ((w.setCell ⟨g, 0, none⟩ u).setCell ⟨g, 1, none⟩ v) g 2 _ _ s k1).trans (show _ = some (.cells #[u, v, s, t0] t (0, 0)) from rfl)
  exact (heap_setCell_same (((w.setCell ⟨g, 0, none⟩ u).setCell ⟨g, 1, none⟩ v).setCell ⟨g, 2, none⟩ s) g 3 _ _ r k2).trans rfl
set_option maxHeartbeats 4000000 in
set_option maxRecDepth 100000 in
theorem detector_any {W w : World} {d : Nat} {a : Option Addr} {len cap : Nat} {zs : List Int} (h : Di W w d a len cap zs) :
    Calls Tryd.prog 10 #[.pointer (some ⟨d, 0, none⟩)] w fun e w' => Detd e ∧ Dice.Left W w w' d a len cap zs := by
  have HD := Lib.hid h
  have hlt := h.lt
  clear h
  obtain ⟨w1, hw1⟩ : ∃ w1, w1 = w.alloc (.cells #[.int .i64 0, .int .i64 0, .int .i64 0, .int .i64 0] 28) := ⟨_, rfl⟩
  have K := Lib.hid (show w1.heap[w.heap.size]? = some (.cells #[.int .i64 0, .int .i64 0, .int .i64 0, .int .i64 0] 28 (0, 0)) by rw [hw1]; exact heap_alloc_new w _)
  have L1 : Hid (Dice.Left W w w1 d a len cap zs) := Lib.hid (by rw [hw1]; exact (Dice.Left.refl HD.out).below (new_block _))
  go_enter Tryd.func10, Tryd.ntmps10
  go_upto_region 1 with fail
  rw [← hw1]
  clear hw1
  go_wp2_with fail
  refine (next_any 3 L1.out.di (by omega) (by omega)).mono ?_
  rintro e w2 ⟨⟨s, rfl, s0, s1⟩, hl⟩
  replace K := Lib.hid ((hl.far.block w.heap.size (Array.getElem?_eq_some_iff.1 K.out).1 (by simp; omega)).trans K.out)
  replace L1 := Lib.hid (L1.out.trans hl)
  clear hl
  go_wp2_with fail
  have I1 := Lib.hid (ints_alloc w2 [50, 100, 120] 3)
  have k2 := (Array.getElem?_eq_some_iff.1 K.out).1
  refine (pick_any w2.heap.size [50, 100, 120] 3 3 (L1.out.di.below (new_block _)) (by simpa using I1.out) rfl (by omega) (by omega) (by have := L1.out.di.lt; omega) (by simp)).mono ?_
  rintro e w3 ⟨⟨f, rfl, hf⟩, hl⟩
  have hf' : f = 50 ∨ f = 100 ∨ f = 120 := by simpa using hf
  have f0 : 1 ≤ f ∧ f ≤ 120 := by omega
  replace K := Lib.hid ((hl.far.block w.heap.size (by simp; omega) (by simp; omega)).trans ((heap_alloc_old w2 _ k2).trans K.out))
  replace L1 := Lib.hid ((L1.out.below (new_block _)).trans hl)
  clear hl I1 hf hf' k2
  go_wp2_with fail
  refine (next_any 6 L1.out.di (by omega) (by omega)).mono ?_
  rintro e w4 ⟨⟨t, rfl, t0, t1⟩, hl⟩
  replace K := Lib.hid ((hl.far.block w.heap.size (Array.getElem?_eq_some_iff.1 K.out).1 (by simp; omega)).trans K.out)
  replace L1 := Lib.hid (L1.out.trans hl)
  clear hl
  go_wp2_with fail
  have I1 := Lib.hid (ints_alloc w4 [0, 50, 100] 3)
  have k2 := (Array.getElem?_eq_some_iff.1 K.out).1
  refine (pick_any w4.heap.size [0, 50, 100] 3 3 (L1.out.di.below (new_block _)) (by simpa using I1.out) rfl (by omega) (by omega) (by have := L1.out.di.lt; omega) (by simp)).mono ?_
  rintro e w5 ⟨⟨o, rfl, ho⟩, hl⟩
  have ho' : o = 0 ∨ o = 50 ∨ o = 100 := by simpa using ho
  have o0 : 0 ≤ o ∧ o ≤ 100 := by omega
  replace K := Lib.hid ((hl.far.block w.heap.size (by simp; omega) (by simp; omega)).trans ((heap_alloc_old w4 _ k2).trans K.out))
  replace L1 := Lib.hid ((L1.out.below (new_block _)).trans hl)
  clear hl I1 ho ho' k2
  have y0 := cell_of_row w5 w.heap.size 0 _ _ _ K.out
  have y1 := cell_of_row w5 w.heap.size 1 _ _ _ K.out
  have y2 := cell_of_row w5 w.heap.size 2 _ _ _ K.out
  have y3 := cell_of_row w5 w.heap.size 3 _ _ _ K.out
  have g0 := frozen_of_row w5 w.heap.size 0 _ _ K.out
  have g1 := frozen_of_row w5 w.heap.size 1 _ _ K.out
  have g2 := frozen_of_row w5 w.heap.size 2 _ _ K.out
  have g3 := frozen_of_row w5 w.heap.size 3 _ _ K.out
  have KZ := Lib.hid (st4 K.out (.int .i64 (1 + s)) (.int .i64 (1 + s + 1 + t)) (.int .i64 (f + o)) (.int .i64 f))
  go_wp2_with fail
  refine bodyPost_ret (results_cell_row rfl _ _ w.heap.size _ _ _ _ rfl KZ.out rfl (by rfl) rfl) rfl ⟨?_, ?_⟩
  · refine ⟨(1 + s).toNat, (1 + s + 1 + t).toNat, f + o, f, ?_, ⟨?_, ?_, ?_, ?_, ?_, ?_⟩, ?_⟩
    · rw [Int.toNat_of_nonneg (by omega), Int.toNat_of_nonneg (by omega)]
    all_goals (try simp only)
    all_goals omega
  · exact Dice.Left.past HD.out L1.out ((((((Below.refl _ _).setCell (p := ⟨w.heap.size, 0, none⟩) (Nat.le_refl _) _).setCell (p := ⟨w.heap.size, 1, none⟩) (Nat.le_refl _) _).setCell (p := ⟨w.heap.size, 2, none⟩) (Nat.le_refl _) _).setCell (p := ⟨w.heap.size, 3, none⟩) (Nat.le_refl _) _))
end Det
end Go.Proofs.YtbmcmiggifknfaaDoor
