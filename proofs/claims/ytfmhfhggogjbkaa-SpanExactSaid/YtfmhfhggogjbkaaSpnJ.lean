/- sane of layer 8: the examples of the chapter. -/
import Derived.Test.YtfmhfhggogjbkaaSpnI
set_option linter.unusedVariables false
set_option linter.unusedSimpArgs false
namespace Go.Proofs.Ytfmhfhggogjbkaa
open Go.RowKit Dice
namespace Spn
open Sp (cells2 cells2_snoc cells2_get Spans own_kept own_below own_mono own_shape)
/-- A list that is written out. -/
theorem its_block {w : World} {b n : Nat} {cs : Array Value} {T : TypeId} (L : LP) (h : w.heap[b]? = some (.cells cs T (0, 0))) (hc : cs = (cells2 L).toArray) (hn : n = L.length) : Its w (.slice (some ⟨b, 0, none⟩) n n) L := by
  subst hc
  subst hn
  refine .inr ⟨b, _, rfl, Nat.le_refl _, (Array.getElem?_eq_some_iff.1 h).1, fun k p hp => ?_⟩
  obtain ⟨x, y⟩ := cells2_get L k p hp
  exact ⟨(cell_of_row w b _ _ _ _ h).trans (by simpa using x), (cell_of_row w b _ _ _ _ h).trans (by simpa using y)⟩
theorem ex_is : Is [(1, 4), (5, 7)] (hasB [(5, 7), (1, 3), (3, 4), (9, 9)]) := by
  refine ⟨canon_cons.2 ⟨by decide, by simp, canon_cons.2 ⟨by decide, by simp, Canon.nil⟩⟩, fun x => ?_⟩
  rw [Bool.eq_iff_iff]
  simp [hasB]
  omega
set_option maxHeartbeats 4000000 in
theorem sane_any (w : World) : Calls Try.prog 12 #[] w fun e w' => e = .returned (.bool true) ∧ Below w.heap.size w w' := by
  have W0 := Lib.hid (new_block (w := w) (.cells #[.int .i64 5, .int .i64 7, .int .i64 1, .int .i64 3, .int .i64 3, .int .i64 4, .int .i64 9, .int .i64 9] 49))
  have I0 := Lib.hid (its_block (n := 4) [(5, 7), (1, 3), (3, 4), (9, 9)] (heap_alloc_new w (.cells #[.int .i64 5, .int .i64 7, .int .i64 1, .int .i64 3, .int .i64 3, .int .i64 4, .int .i64 9, .int .i64 9] 49)) rfl rfl)
  have C1 := Lib.hid (normal_any I0.out (by decide))
  go_enter Try.func12, Try.ntmps12
  go_wp2_with fail
  refine C1.out.mono ?_
  rintro e w1 ⟨⟨r, N, rfl, O, I, hl⟩, b1⟩
  obtain rfl := I.unique ex_is
  have B1 := Lib.hid (Buf.then_ W0.out b1)
  have R1 := Lib.hid (its_of_own O)
  have W1 := Lib.hid (new_block (w := w1) (.cells #[.int .i64 1, .int .i64 4, .int .i64 5, .int .i64 7] 49))
  have I1 := Lib.hid (its_block (n := 2) [(1, 4), (5, 7)] (heap_alloc_new w1 (.cells #[.int .i64 1, .int .i64 4, .int .i64 5, .int .i64 7] 49)) rfl rfl)
  have C2 := Lib.hid (same_yes (R1.out.keep W1.out) I1.out (by decide))
  have R2 := Lib.hid (R1.out.keep W1.out)
  clear W0 I0 C1 O I hl b1
  go_wp2_with fail
  refine C2.out.mono ?_
  rintro e w2 ⟨rfl, b2⟩
  have B2 := Lib.hid (Buf.then_ B1.out (Buf.then_ W1.out b2))
  have R3 := Lib.hid (R2.out.keep b2)
  have C3 := Lib.hid (first_any 4 R3.out (by intro p hp; simp at hp; rcases hp with rfl | rfl <;> decide) (by decide) (by decide) (by decide))
  clear C2 R1 R2 W1 I1 b2 B1
  go_wp2_with fail
  refine C3.out.mono ?_
  rintro e w3 ⟨⟨r3, N3, I3, hl3, rfl, O3⟩, b3⟩
  obtain rfl := I3.unique ⟨ex_is.canon, fun _ => rfl⟩
  have e3 : firstL [(1, 4), (5, 7)] 4 = [(1, 4), (5, 6)] := by decide
  rw [e3] at O3
  have B3 := Lib.hid (Buf.then_ B2.out b3)
  have R4 := Lib.hid (R3.out.keep b3)
  have W3 := Lib.hid (new_block (w := w3) (.cells #[.int .i64 1, .int .i64 4, .int .i64 5, .int .i64 6] 49))
  have I4 := Lib.hid (its_block (n := 2) [(1, 4), (5, 6)] (heap_alloc_new w3 (.cells #[.int .i64 1, .int .i64 4, .int .i64 5, .int .i64 6] 49)) rfl rfl)
  have C4 := Lib.hid (same_yes ((its_of_own O3).keep W3.out) I4.out (by decide))
  clear C3 R3 O3 I3 hl3 b3 B2
  go_wp2_with fail
  refine C4.out.mono ?_
  rintro e w4 ⟨rfl, b4⟩
  have B4 := Lib.hid (Buf.then_ B3.out (Buf.then_ W3.out b4))
  have C5 := Lib.hid (valid_any true (by simp [ex_is.canon]) ((R4.out.keep W3.out).keep b4) (by decide))
  go_wp2_with fail
  refine C5.out.mono ?_
  rintro e w5 ⟨rfl, b5⟩
  go_wp2_with fail
  go_ret
  exact ⟨rfl, Buf.then_ B4.out b5⟩
end Spn
end Go.Proofs.Ytfmhfhggogjbkaa
