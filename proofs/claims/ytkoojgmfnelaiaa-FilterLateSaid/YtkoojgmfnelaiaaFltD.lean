/- Segments as records: continuity.asRecord, ValidSegment. -/
import Derived.Test.YtkoojgmfnelaiaaFltC
import Derived.Test.YtkoojgmfnelaiaaMidN
import Derived.Test.YtkoojgmfnelaiaaRes
set_option linter.unusedVariables false
set_option linter.unusedSimpArgs false
namespace Go.Proofs.Ytkoojgmfnelaiaa
open Go.RowKit
namespace Flt
open Dice
set_option maxHeartbeats 4000000 in
theorem c6 {w : World} {g : Nat} {a b c d e f : Value} {t : TypeId} (hh : w.heap[g]? = some (.cells #[a, b, c, d, e, f] t (0, 0))) : w.cell? ⟨g, 0, none⟩ = some a ∧ w.cell? ⟨g, 1, none⟩ = some b ∧ w.cell? ⟨g, 2, none⟩ = some c ∧ w.cell? ⟨g, 3, none⟩ = some d ∧ w.cell? ⟨g, 4, none⟩ = some e ∧ w.cell? ⟨g, 5, none⟩ = some f :=
  ⟨cell_of_row w g 0 _ _ _ hh, cell_of_row w g 1 _ _ _ hh, cell_of_row w g 2 _ _ _ hh, cell_of_row w g 3 _ _ _ hh, cell_of_row w g 4 _ _ _ hh, cell_of_row w g 5 _ _ _ hh⟩
set_option maxHeartbeats 4000000 in
set_option maxRecDepth 100000 in
theorem asRecord_any (st fi num den er : Int) (b off n c : Nat) (w : World) :
    Calls Try.prog 54 #[.agg #[.int .i64 st, .int .i64 fi, .int .i64 num, .int .i64 den, .int .i64 er, .slice (some ⟨b, off, none⟩) n c]] w fun e w' => e = .returned (.agg #[.string ⟨#[65]⟩, .string ⟨#[65]⟩, .string ⟨#[]⟩, .string ⟨#[65, 65, 65]⟩, .int .i64 st, .int .i64 fi, .int .i64 num, .int .i64 den, .int .i64 er, .int .i64 0, .int .i64 0, .slice (some ⟨b, off, none⟩) n c]) ∧ Below w.heap.size w w' := by
  obtain ⟨w1, hw1e⟩ : ∃ w1, w1 = w.alloc (.cells #[.int .i64 st, .int .i64 fi, .int .i64 num, .int .i64 den, .int .i64 er, .slice (some ⟨b, off, none⟩) n c] 57) := ⟨_, rfl⟩
  have hs1 : Hid (w1.heap.size = w.heap.size + 1) := Lib.hid (by rw [hw1e]; simp)
  have Y1 : Hid (Below w.heap.size w w1) := Lib.hid (by rw [hw1e]; exact new_block _)
  have KA1 := Lib.hid (show w1.heap[w.heap.size]? = some (.cells #[.int .i64 st, .int .i64 fi, .int .i64 num, .int .i64 den, .int .i64 er, .slice (some ⟨b, off, none⟩) n c] 57 (0, 0)) by rw [hw1e]; exact heap_alloc_new w _)
  obtain ⟨w2, hw2e⟩ : ∃ w2, w2 = w1.alloc (.cells #[.string ⟨#[]⟩, .string ⟨#[]⟩, .string ⟨#[]⟩, .string ⟨#[]⟩, .int .i64 0, .int .i64 0, .int .i64 0, .int .i64 0, .int .i64 0, .int .i64 0, .int .i64 0, .slice none 0 0] 95) := ⟨_, rfl⟩
  have Y2 : Hid (Below w.heap.size w w2) := Lib.hid (Buf.then_ Y1.out (by rw [hw2e]; exact new_block _))
  have KA := Lib.hid (show w2.heap[w.heap.size]? = some (.cells #[.int .i64 st, .int .i64 fi, .int .i64 num, .int .i64 den, .int .i64 er, .slice (some ⟨b, off, none⟩) n c] 57 (0, 0)) by rw [hw2e]; exact (heap_alloc_old w1 _ (by rw [hs1.out]; omega)).trans KA1.out)
  have KB := Lib.hid (show w2.heap[w.heap.size + 1]? = some (.cells #[.string ⟨#[]⟩, .string ⟨#[]⟩, .string ⟨#[]⟩, .string ⟨#[]⟩, .int .i64 0, .int .i64 0, .int .i64 0, .int .i64 0, .int .i64 0, .int .i64 0, .int .i64 0, .slice none 0 0] 95 (0, 0)) by rw [hw2e, ← hs1.out]; exact heap_alloc_new w1 _)
  go_enter Try.func54, Try.ntmps54
  go_upto_region 1 with fail
  rw [← hw1e, ← hw2e]
  clear hw1e hw2e KA1 Y1
  obtain ⟨x0, x1, x2, x3, x4, x5⟩ := c6 KA.out
  go_wp2_with ((with_reducible refine Mid.str 95 (.tmp 2) (.tmp 14) (w.heap.size + 1) 95 #[.string ⟨#[]⟩, .string ⟨#[]⟩, .string ⟨#[]⟩, .string ⟨#[]⟩, .int .i64 0, .int .i64 0, .int .i64 0, .int .i64 0, .int .i64 0, .int .i64 0, .int .i64 0, .slice none 0 0] #[.string ⟨#[65]⟩, .string ⟨#[65]⟩, .string ⟨#[]⟩, .string ⟨#[65, 65, 65]⟩, .int .i64 st, .int .i64 fi, .int .i64 num, .int .i64 den, .int .i64 er, .int .i64 0, .int .i64 0, .slice (some ⟨b, off, none⟩) n c] KB.out ?_ ?_ ?_ ?_ ?_ ?_ ?_ ?_); (· rfl); (· rfl); (· first | rfl | simp [Act.eval]); (· first | rfl | simp [Act.eval]); (· kernel_rfl); (· rfl); (· simp [Value.oneCell']))
  have KC := Lib.hid (setRow_heap _ _ _ #[.string ⟨#[65]⟩, .string ⟨#[65]⟩, .string ⟨#[]⟩, .string ⟨#[65, 65, 65]⟩, .int .i64 st, .int .i64 fi, .int .i64 num, .int .i64 den, .int .i64 er, .int .i64 0, .int .i64 0, .slice (some ⟨b, off, none⟩) n c] _ _ KB.out)
  exact bodyPost_ret (results_cell_row rfl _ _ (w.heap.size + 1) _ _ _ _ rfl KC.out rfl (by rfl) rfl) rfl ⟨rfl, Mid.below_row Y2.out _ _ (by omega)⟩
/-- The source of a segment's record. -/
theorem src_a (w : World) : Calls Try.prog 60 #[.agg #[.string ⟨#[65]⟩, .string ⟨#[65]⟩, .string ⟨#[]⟩, .string ⟨#[65, 65, 65]⟩]] w fun e w' => e = .returned (.bool true) ∧ Below w.heap.size w w' :=
  Sc.valid_yes (s0 := [65]) (s1 := [65]) (s2 := []) (s3 := [65, 65, 65]) ⟨Sc.code_of (by decide), Sc.code_of (by decide), Sc.code_nil, Sc.code_of (by decide), by decide, by decide, by decide, by decide⟩ w
set_option maxHeartbeats 4000000 in
set_option maxRecDepth 100000 in
theorem validSegment_yes {st fi num den er : Int} (P : SG st fi num den er 0 0) {b off n c : Nat} {Z : Nat → Int} {w : World} (X : RXo w b off n c Z) :
    Calls Try.prog 38 #[.agg #[.int .i64 st, .int .i64 fi, .int .i64 num, .int .i64 den, .int .i64 er, .slice (some ⟨b, off, none⟩) n c]] w fun e w' => e = .returned (.bool true) ∧ Below w.heap.size w w' := by
  have AR := Lib.hid (asRecord_any st fi num den er b off n c)
  have VA := Lib.hid fun (w' : World) (h : Below w.heap.size w w') => valid_any (S0 := ⟨#[65]⟩) (S1 := ⟨#[65]⟩) (S2 := ⟨#[]⟩) (S3 := ⟨#[65, 65, 65]⟩) src_a P (X.keep h)
  obtain ⟨w1, hw1e⟩ : ∃ w1, w1 = w.alloc (.cells #[.int .i64 st, .int .i64 fi, .int .i64 num, .int .i64 den, .int .i64 er, .slice (some ⟨b, off, none⟩) n c] 57) := ⟨_, rfl⟩
  have Y1 : Hid (Below w.heap.size w w1) := Lib.hid (by rw [hw1e]; exact new_block _)
  have KA := Lib.hid (show w1.heap[w.heap.size]? = some (.cells #[.int .i64 st, .int .i64 fi, .int .i64 num, .int .i64 den, .int .i64 er, .slice (some ⟨b, off, none⟩) n c] 57 (0, 0)) by rw [hw1e]; exact heap_alloc_new w _)
  clear P X
  go_enter Try.func38, Try.ntmps38
  go_upto_region 1 with fail
  rw [← hw1e]
  clear hw1e
  obtain ⟨x0, x1, x2, x3, x4, x5⟩ := c6 KA.out
  go_wp2_with (first
    | (go_at_call 54; with_reducible refine (AR.out _).mono ?_; rintro e w2 ⟨rfl, hc⟩; (replace Y1 := Lib.hid (Buf.then_ Y1.out hc)))
    | (go_at_call 53; with_reducible refine (VA.out _ Y1.out).mono ?_; rintro e w3 ⟨rfl, hc3⟩))
  go_ret
  exact ⟨rfl, Buf.then_ Y1.out hc3⟩
end Flt
end Go.Proofs.Ytkoojgmfnelaiaa
