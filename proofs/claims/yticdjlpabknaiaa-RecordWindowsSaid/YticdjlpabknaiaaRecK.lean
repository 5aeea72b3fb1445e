/- The example of the chapter. -/
import Derived.Test.YticdjlpabknaiaaRecJ
set_option linter.unusedVariables false
set_option linter.unusedSimpArgs false
namespace Go.Proofs.Yticdjlpabknaiaa
open Go.RowKit
namespace Rec
open Dice
theorem rp_s (fi : Int) (f0 : 0 ≤ fi) (f9 : fi ≤ 1000) : RP [65] [66] [] [72, 72, 90] 0 fi 3 1 0 0 0 :=
  ⟨⟨Sc.code_of (by decide), Sc.code_of (by decide), Sc.code_nil, Sc.code_of (by decide), by decide, by decide, by decide, by decide⟩, by omega, by omega, f0, f9, ⟨by omega, by omega, by omega, by omega, by decide⟩, by omega, by omega, by omega, by omega, by omega, by omega⟩
theorem rx_s {w : World} {b : Nat} (h : w.heap[b]? = some (.cells #[.int .i64 1, .int .i64 2, .int .i64 3, .int .i64 4] 3 (0, 0))) : RX w b 4 4 [1, 2, 3, 4] := by
  refine ⟨⟨(Array.getElem?_eq_some_iff.1 h).1, fun j hj => ?_⟩, rfl, by decide, by decide, by decide, by decide, by decide⟩
  have : j = 0 ∨ j = 1 ∨ j = 2 ∨ j = 3 := by simp at hj; omega
  rcases this with rfl | rfl | rfl | rfl
  · exact cell_of_row w b 0 _ _ _ h
  · exact cell_of_row w b 1 _ _ _ h
  · exact cell_of_row w b 2 _ _ _ h
  · exact cell_of_row w b 3 _ _ _ h
theorem tm_s0 : tm 0 0 3 1 0 = 0 := by decide +kernel
theorem tm_s4 : tm 0 0 3 1 ((4 : Nat) : Int) = 1333333 := by decide +kernel
theorem tm_s2 : tm 0 0 3 1 2 = 666666 := by decide +kernel
theorem tm_t0 : tm 0 2 3 1 0 = 666666 := by decide +kernel
theorem span_s {w : World} {b : Nat} (X : RX w b 4 4 [1, 2, 3, 4]) : Calls Try.prog 16 #[.agg #[.string ⟨#[65]⟩, .string ⟨#[66]⟩, .string ⟨#[]⟩, .string ⟨#[72, 72, 90]⟩, .int .i64 0, .int .i64 0, .int .i64 3, .int .i64 1, .int .i64 0, .int .i64 0, .int .i64 0, .slice (some ⟨b, 0, none⟩) 4 4]] w fun e w' => e = .returned (.tuple #[.agg #[.int .i64 0, .int .i64 1333333], .int .i64 0]) ∧ Below w.heap.size w w' := by
  have := span_any (rp_s 0 (by omega) (by omega)) X
  rw [tm_s0, tm_s4] at this
  exact this
theorem sub_s {w : World} {b : Nat} (X : RX w b 4 4 [1, 2, 3, 4]) : Calls Try.prog 15 #[.agg #[.string ⟨#[65]⟩, .string ⟨#[66]⟩, .string ⟨#[]⟩, .string ⟨#[72, 72, 90]⟩, .int .i64 0, .int .i64 0, .int .i64 3, .int .i64 1, .int .i64 0, .int .i64 0, .int .i64 0, .slice (some ⟨b, 0, none⟩) 4 4], .int .i64 2, .int .i64 4] w fun e w' => (∃ g c2, e = .returned (.tuple #[.agg #[.string ⟨#[65]⟩, .string ⟨#[66]⟩, .string ⟨#[]⟩, .string ⟨#[72, 72, 90]⟩, .int .i64 0, .int .i64 2, .int .i64 3, .int .i64 1, .int .i64 0, .int .i64 0, .int .i64 0, .slice (some ⟨g, 0, none⟩) 2 c2], .int .i64 0]) ∧ RX w' g 2 c2 (cutl [1, 2, 3, 4] 2 4) ∧ w.heap.size < g) ∧ Below w.heap.size w w' :=
  sub_any (rp_s 0 (by omega) (by omega)) X 2 4 (by decide) (by decide)
theorem at_s {w : World} {b : Nat} (X : RX w b 4 4 [1, 2, 3, 4]) : Calls Try.prog 18 #[.agg #[.string ⟨#[65]⟩, .string ⟨#[66]⟩, .string ⟨#[]⟩, .string ⟨#[72, 72, 90]⟩, .int .i64 0, .int .i64 0, .int .i64 3, .int .i64 1, .int .i64 0, .int .i64 0, .int .i64 0, .slice (some ⟨b, 0, none⟩) 4 4], .int .i64 2] w fun e w' => e = .returned (.tuple #[.int .i64 666666, .int .i64 0]) ∧ Below w.heap.size w w' := by
  have := at_any (rp_s 0 (by omega) (by omega)) X 2 (by omega) (by decide)
  rw [tm_s2] at this
  exact this
theorem at_t {w : World} {g c2 : Nat} {xs : List Int} (X : RX w g 2 c2 xs) : Calls Try.prog 18 #[.agg #[.string ⟨#[65]⟩, .string ⟨#[66]⟩, .string ⟨#[]⟩, .string ⟨#[72, 72, 90]⟩, .int .i64 0, .int .i64 2, .int .i64 3, .int .i64 1, .int .i64 0, .int .i64 0, .int .i64 0, .slice (some ⟨g, 0, none⟩) 2 c2], .int .i64 0] w fun e w' => e = .returned (.tuple #[.int .i64 666666, .int .i64 0]) ∧ Below w.heap.size w w' := by
  have := at_any (rp_s 2 (by omega) (by omega)) X 0 (by omega) (by decide)
  rw [tm_t0] at this
  exact this
set_option maxHeartbeats 4000000 in
set_option maxRecDepth 100000 in
theorem sane_any (w : World) : Calls Try.prog 7 #[] w fun e w' => e = .returned (.bool true) ∧ Below w.heap.size w w' := by
  have eS : (w.alloc (.cells #[.int .i64 1, .int .i64 2, .int .i64 3, .int .i64 4] 3)).heap.size = w.heap.size + 1 := by simp
  have NB : ((w.alloc (.cells #[.int .i64 1, .int .i64 2, .int .i64 3, .int .i64 4] 3)).alloc (.cells #[.string ⟨#[]⟩, .string ⟨#[]⟩, .string ⟨#[]⟩, .string ⟨#[]⟩, .int .i64 0, .int .i64 0, .int .i64 0, .int .i64 0, .int .i64 0, .int .i64 0, .int .i64 0, .slice none 0 0] 32)).heap[w.heap.size + 1]? = some (.cells #[.string ⟨#[]⟩, .string ⟨#[]⟩, .string ⟨#[]⟩, .string ⟨#[]⟩, .int .i64 0, .int .i64 0, .int .i64 0, .int .i64 0, .int .i64 0, .int .i64 0, .int .i64 0, .slice none 0 0] 32 (0, 0)) := by rw [← eS]; exact heap_alloc_new _ _
  obtain ⟨w1, hw1⟩ : ∃ w1, w1 = ((w.alloc (.cells #[.int .i64 1, .int .i64 2, .int .i64 3, .int .i64 4] 3)).alloc (.cells #[.string ⟨#[]⟩, .string ⟨#[]⟩, .string ⟨#[]⟩, .string ⟨#[]⟩, .int .i64 0, .int .i64 0, .int .i64 0, .int .i64 0, .int .i64 0, .int .i64 0, .int .i64 0, .slice none 0 0] 32)).setRow (w.heap.size + 1) #[.string ⟨#[65]⟩, .string ⟨#[66]⟩, .string ⟨#[]⟩, .string ⟨#[72, 72, 90]⟩, .int .i64 0, .int .i64 0, .int .i64 3, .int .i64 1, .int .i64 0, .int .i64 0, .int .i64 0, .slice (some ⟨w.heap.size, 0, none⟩) 4 4] := ⟨_, rfl⟩
  have K1 := Lib.hid (show w1.heap[w.heap.size + 1]? = some (.cells #[.string ⟨#[65]⟩, .string ⟨#[66]⟩, .string ⟨#[]⟩, .string ⟨#[72, 72, 90]⟩, .int .i64 0, .int .i64 0, .int .i64 3, .int .i64 1, .int .i64 0, .int .i64 0, .int .i64 0, .slice (some ⟨w.heap.size, 0, none⟩) 4 4] 32 (0, 0)) by rw [hw1]; exact setRow_heap _ _ _ _ _ _ NB)
  have X1 := Lib.hid (rx_s (show w1.heap[w.heap.size]? = some (.cells #[.int .i64 1, .int .i64 2, .int .i64 3, .int .i64 4] 3 (0, 0)) by rw [hw1]; exact (setRow_other _ _ _ _ (by omega)).trans ((heap_alloc_old _ _ (by simp)).trans (heap_alloc_new w _))))
  have Y1 : Hid (Below w.heap.size w w1) := Lib.hid (by rw [hw1]; exact Mid.below_row ((new_block _).alloc (by simp) _) _ _ (by omega))
  have NB' := Lib.hid NB
  clear NB
  go_enter Try.func7, Try.ntmps7
  go_upto_region 2 with ((with_reducible refine Mid.str 32 (.tmp 1) (.tmp 13) (w.heap.size + 1) 32 #[.string ⟨#[]⟩, .string ⟨#[]⟩, .string ⟨#[]⟩, .string ⟨#[]⟩, .int .i64 0, .int .i64 0, .int .i64 0, .int .i64 0, .int .i64 0, .int .i64 0, .int .i64 0, .slice none 0 0] #[.string ⟨#[65]⟩, .string ⟨#[66]⟩, .string ⟨#[]⟩, .string ⟨#[72, 72, 90]⟩, .int .i64 0, .int .i64 0, .int .i64 3, .int .i64 1, .int .i64 0, .int .i64 0, .int .i64 0, .slice (some ⟨w.heap.size, 0, none⟩) 4 4] NB'.out ?_ ?_ ?_ ?_ ?_ ?_ ?_ ?_); (· rfl); (· rfl); (· first | rfl | simp [Act.eval]); (· first | rfl | simp [Act.eval]); (· kernel_rfl); (· rfl); (· simp [Value.oneCell']))
  rw [← hw1]
  clear hw1 eS NB'
  have V1 := Lib.hid (span_s X1.out)
  go_upto_region 3 with (first | ((with_reducible refine Mid.ldr 32 (.tmp 1) (w.heap.size + 1) 32 #[.string ⟨#[65]⟩, .string ⟨#[66]⟩, .string ⟨#[]⟩, .string ⟨#[72, 72, 90]⟩, .int .i64 0, .int .i64 0, .int .i64 3, .int .i64 1, .int .i64 0, .int .i64 0, .int .i64 0, .slice (some ⟨w.heap.size, 0, none⟩) 4 4] K1.out ?_ ?_ ?_ ?_ ?_ ?_); (· rfl); (· rfl); (· first | rfl | simp [Act.eval]); (· exact ⟨_, rfl, rfl⟩); (· kernel_rfl)) | (go_at_call 16; with_reducible refine V1.out.mono ?_; rintro e w2 ⟨rfl, hc⟩; (have K2 := Lib.hid (hb hc K1.out)); (have X2 := Lib.hid (X1.out.keep hc)); (have Y2 := Lib.hid (Buf.then_ Y1.out hc)); clear hc) | ((with_reducible refine Mid.str 36 (.tmp 2) (.tmp 17) w2.heap.size 36 #[.int .i64 0, .int .i64 0] #[.int .i64 0, .int .i64 1333333] (heap_alloc_new w2 _) ?_ ?_ ?_ ?_ ?_ ?_ ?_ ?_); (· rfl); (· rfl); (· first | rfl | simp [Act.eval]); (· first | rfl | simp [Act.eval]); (· kernel_rfl); (· rfl); (· simp [Value.oneCell'])))
  obtain ⟨w3, hw3⟩ : ∃ w3, w3 = (w2.alloc (.cells #[.int .i64 0, .int .i64 0] 36)).setRow w2.heap.size #[.int .i64 0, .int .i64 1333333] := ⟨_, rfl⟩
  have N3 : Below w2.heap.size w2 w3 := by rw [hw3]; exact Mid.below_row (new_block _) _ _ (Nat.le_refl _)
  have P3 := Lib.hid (show w3.heap[w2.heap.size]? = some (.cells #[.int .i64 0, .int .i64 1333333] 36 (0, 0)) by rw [hw3]; exact setRow_heap _ _ _ _ _ _ (heap_alloc_new w2 _))
  have K3 := Lib.hid (hb N3 K2.out)
  have X3 := Lib.hid (X2.out.keep N3)
  have Y3 := Lib.hid (Buf.then_ Y2.out N3)
  rw [← hw3]
  obtain ⟨p, hp⟩ : ∃ p, p = w2.heap.size := ⟨_, rfl⟩
  rw [← hp] at P3 ⊢
  clear hw3 N3 K1 X1 Y1 K2 X2 Y2 V1 hp
  have V3 := Lib.hid (sub_s X3.out)
  go_upto_region 4 with (first | ((with_reducible refine Mid.ldr 32 (.tmp 1) (w.heap.size + 1) 32 #[.string ⟨#[65]⟩, .string ⟨#[66]⟩, .string ⟨#[]⟩, .string ⟨#[72, 72, 90]⟩, .int .i64 0, .int .i64 0, .int .i64 3, .int .i64 1, .int .i64 0, .int .i64 0, .int .i64 0, .slice (some ⟨w.heap.size, 0, none⟩) 4 4] K3.out ?_ ?_ ?_ ?_ ?_ ?_); (· rfl); (· rfl); (· first | rfl | simp [Act.eval]); (· exact ⟨_, rfl, rfl⟩); (· kernel_rfl)) | (go_at_call 15; with_reducible refine V3.out.mono ?_; rintro e w4 ⟨⟨g, c2, rfl, rx, hg⟩, hc⟩; (have K4 := Lib.hid (hb hc K3.out)); (have P4 := Lib.hid (hb hc P3.out)); (have X4 := Lib.hid (X3.out.keep hc)); (have Y4 := Lib.hid (Buf.then_ Y3.out hc)); clear hc) | ((with_reducible refine Mid.str 32 (.tmp 4) (.tmp 22) w4.heap.size 32 #[.string ⟨#[]⟩, .string ⟨#[]⟩, .string ⟨#[]⟩, .string ⟨#[]⟩, .int .i64 0, .int .i64 0, .int .i64 0, .int .i64 0, .int .i64 0, .int .i64 0, .int .i64 0, .slice none 0 0] #[.string ⟨#[65]⟩, .string ⟨#[66]⟩, .string ⟨#[]⟩, .string ⟨#[72, 72, 90]⟩, .int .i64 0, .int .i64 2, .int .i64 3, .int .i64 1, .int .i64 0, .int .i64 0, .int .i64 0, .slice (some ⟨g, 0, none⟩) 2 c2] (heap_alloc_new w4 _) ?_ ?_ ?_ ?_ ?_ ?_ ?_ ?_); (· rfl); (· rfl); (· first | rfl | simp [Act.eval]); (· first | rfl | simp [Act.eval]); (· kernel_rfl); (· rfl); (· simp [Value.oneCell'])))
  obtain ⟨w5, hw5⟩ : ∃ w5, w5 = (w4.alloc (.cells #[.string ⟨#[]⟩, .string ⟨#[]⟩, .string ⟨#[]⟩, .string ⟨#[]⟩, .int .i64 0, .int .i64 0, .int .i64 0, .int .i64 0, .int .i64 0, .int .i64 0, .int .i64 0, .slice none 0 0] 32)).setRow w4.heap.size #[.string ⟨#[65]⟩, .string ⟨#[66]⟩, .string ⟨#[]⟩, .string ⟨#[72, 72, 90]⟩, .int .i64 0, .int .i64 2, .int .i64 3, .int .i64 1, .int .i64 0, .int .i64 0, .int .i64 0, .slice (some ⟨g, 0, none⟩) 2 c2] := ⟨_, rfl⟩
  have N5 : Below w4.heap.size w4 w5 := by rw [hw5]; exact Mid.below_row (new_block _) _ _ (Nat.le_refl _)
  have Q5 := Lib.hid (show w5.heap[w4.heap.size]? = some (.cells #[.string ⟨#[65]⟩, .string ⟨#[66]⟩, .string ⟨#[]⟩, .string ⟨#[72, 72, 90]⟩, .int .i64 0, .int .i64 2, .int .i64 3, .int .i64 1, .int .i64 0, .int .i64 0, .int .i64 0, .slice (some ⟨g, 0, none⟩) 2 c2] 32 (0, 0)) by rw [hw5]; exact setRow_heap _ _ _ _ _ _ (heap_alloc_new w4 _))
  have K5 := Lib.hid (hb N5 K4.out)
  have P5 := Lib.hid (hb N5 P4.out)
  have X5 := Lib.hid (X4.out.keep N5)
  have G5 := Lib.hid (rx.keep N5)
  have Y5 := Lib.hid (Buf.then_ Y4.out N5)
  rw [← hw5]
  obtain ⟨q, hq⟩ : ∃ q, q = w4.heap.size := ⟨_, rfl⟩
  rw [← hq] at Q5 ⊢
  clear hw5 N5 K3 X3 Y3 K4 X4 Y4 P4 V3 P3 hq rx hg
  have V5 := Lib.hid (at_s X5.out)
  go_upto_region 5 with (first | ((with_reducible refine Mid.ldr 32 (.tmp 1) (w.heap.size + 1) 32 #[.string ⟨#[65]⟩, .string ⟨#[66]⟩, .string ⟨#[]⟩, .string ⟨#[72, 72, 90]⟩, .int .i64 0, .int .i64 0, .int .i64 3, .int .i64 1, .int .i64 0, .int .i64 0, .int .i64 0, .slice (some ⟨w.heap.size, 0, none⟩) 4 4] K5.out ?_ ?_ ?_ ?_ ?_ ?_); (· rfl); (· rfl); (· first | rfl | simp [Act.eval]); (· exact ⟨_, rfl, rfl⟩); (· kernel_rfl)) | (go_at_call 18; with_reducible refine V5.out.mono ?_; rintro e w6 ⟨rfl, hc⟩; (have K6 := Lib.hid (hb hc K5.out)); (have P6 := Lib.hid (hb hc P5.out)); (have Q6 := Lib.hid (hb hc Q5.out)); (have X6 := Lib.hid (X5.out.keep hc)); (have G6 := Lib.hid (G5.out.keep hc)); (have Y6 := Lib.hid (Buf.then_ Y5.out hc)); clear hc))
  clear K5 P5 Q5 X5 G5 Y5 V5
  have V6 := Lib.hid (at_t G6.out)
  go_upto_region 6 with (first | ((with_reducible refine Mid.ldr 32 (.tmp 4) q 32 #[.string ⟨#[65]⟩, .string ⟨#[66]⟩, .string ⟨#[]⟩, .string ⟨#[72, 72, 90]⟩, .int .i64 0, .int .i64 2, .int .i64 3, .int .i64 1, .int .i64 0, .int .i64 0, .int .i64 0, .slice (some ⟨g, 0, none⟩) 2 c2] Q6.out ?_ ?_ ?_ ?_ ?_ ?_); (· rfl); (· rfl); (· first | rfl | simp [Act.eval]); (· exact ⟨_, rfl, rfl⟩); (· kernel_rfl)) | (go_at_call 18; with_reducible refine V6.out.mono ?_; rintro e w7 ⟨rfl, hc⟩; (have K7 := Lib.hid (hb hc K6.out)); (have P7 := Lib.hid (hb hc P6.out)); (have X7 := Lib.hid (X6.out.keep hc)); (have Y7 := Lib.hid (Buf.then_ Y6.out hc)); clear hc))
  clear K6 P6 Q6 X6 G6 Y6 V6
  have V7 := Lib.hid (valid_any (rp_s 0 (by omega) (by omega)) X7.out)
  obtain ⟨x0, x1, x2, x3, x4, x5, x6, x7, x8, x9, x10, x11⟩ := c12 K7.out
  obtain ⟨pk0, pk1⟩ := Rec.c2 P7.out
  go_wp2_with (first | (go_at_call 24; with_reducible refine V7.out.mono ?_; rintro e w8 ⟨rfl, hc⟩))
  go_ret
  exact ⟨rfl, Buf.then_ Y7.out hc⟩
end Rec
end Go.Proofs.Yticdjlpabknaiaa
