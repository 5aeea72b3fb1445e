/- Parse of source. -/
import Derived.Test.YtfebacopbacopaaDoorSrcE
import Derived.Test.YtfebacopbacopaaDoorRes
set_option linter.unusedVariables false
set_option linter.unusedSimpArgs false
namespace Go.Proofs.YtfebacopbacopaaDoor
open Go.RowKit Dice
namespace Sc
set_option maxRecDepth 100000 in
set_option maxHeartbeats 4000000 in
theorem parse_any {s0 s1 s2 s3 : List UInt8} (h : Src4 s0 s1 s2 s3) (w : World) (hm : Mx w) :
    Calls Tryd.prog 21 #[.string ⟨⟨j4 s0 s1 s2 s3⟩⟩] w fun e w' =>
      e = .returned (.tuple #[.agg #[.string ⟨⟨s0⟩⟩, .string ⟨⟨s1⟩⟩, .string ⟨⟨s2⟩⟩, .string ⟨⟨s3⟩⟩], .int .i64 0]) ∧ Below w.heap.size w w' := by
  have V := Lib.hid fun w' => valid_yes h w'
  obtain ⟨z0, z1, z2, z3⟩ := h.len
  obtain ⟨w0, hw0⟩ : ∃ w0, w0 = w.alloc (.cells #[.string ⟨#[]⟩, .string ⟨#[]⟩, .string ⟨#[]⟩, .string ⟨#[]⟩] 28) := ⟨_, rfl⟩
  have W0 := Lib.hid (show Below w.heap.size w w0 by rw [hw0]; exact new_block _)
  have B0 := Lib.hid (show w0.heap[w.heap.size]? = some (.cells #[.string ⟨#[]⟩, .string ⟨#[]⟩, .string ⟨#[]⟩, .string ⟨#[]⟩] 28 (0, 0)) by rw [hw0]; exact heap_alloc_new w _)
  have S := Lib.hid (split_any h.c0.no_dot h.c1.no_dot h.c2.no_dot h.c3.no_dot (j4_len z0 z1 z2 z3) w0 (hm.next W0.out))
  obtain ⟨w1, hw1⟩ : ∃ w1, w1 = w0.alloc (.cells #[.string ⟨⟨s0⟩⟩, .string ⟨⟨s1⟩⟩, .string ⟨⟨s2⟩⟩, .string ⟨⟨s3⟩⟩] 9) := ⟨_, rfl⟩
  rw [← hw1] at S
  have W1 := Lib.hid (show Below w0.heap.size w0 w1 by rw [hw1]; exact new_block _)
  have K1 := Lib.hid (show At4 w1 w0.heap.size s0 s1 s2 s3 by rw [hw1]; exact heap_alloc_new w0 _)
  have B1 := Lib.hid (hb W1.out B0.out)
  obtain ⟨g, hg⟩ : ∃ g, g = w0.heap.size := ⟨_, rfl⟩
  rw [← hg] at S K1
  obtain ⟨k0, k1, k2, k3⟩ := Rec.c4 K1.out
  have hgl : g < w1.heap.size := (Array.getElem?_eq_some_iff.1 K1.out).1
  have hl : w.heap.size < w1.heap.size := (Array.getElem?_eq_some_iff.1 B1.out).1
  replace hw0 := Lib.hid hw0
  replace hw1 := Lib.hid hw1
  replace hg := Lib.hid hg
  clear h hm z0 z1 z2 z3
  go_enter Tryd.func21, Tryd.ntmps21
  go_upto_region 1 with fail
  rw [← hw0.out]
  go_upto_region 4 with (go_at_call 37; refine (S.out).mono ?_; rintro e w2 ⟨rfl, rfl⟩)
  go_region
  obtain ⟨w3, hw3⟩ : ∃ w3, w3 = (w2.alloc (.cells #[.string ⟨⟨s0⟩⟩, .string ⟨⟨s1⟩⟩, .string ⟨⟨s2⟩⟩, .string ⟨⟨s3⟩⟩] 28)).drew := ⟨_, rfl⟩
  have W3 := Lib.hid (show Below w2.heap.size w2 w3 by rw [hw3]; exact (new_block _).drew)
  obtain ⟨q, hq⟩ : ∃ q, q = w2.heap.size := ⟨_, rfl⟩
  have C3 := Lib.hid (show w3.heap[q]? = some (.cells #[.string ⟨⟨s0⟩⟩, .string ⟨⟨s1⟩⟩, .string ⟨⟨s2⟩⟩, .string ⟨⟨s3⟩⟩] 28 (0, 0)) by rw [hw3, hq]; exact heap_alloc_new w2 _)
  have B3 := Lib.hid (hb W3.out B1.out)
  rw [← hw3, ← hq]
  replace hq := Lib.hid hq
  replace hw3 := Lib.hid hw3
  clear k0 k1 k2 k3
  obtain ⟨k0, k1, k2, k3⟩ := Rec.c4 C3.out
  go_upto_region 7 with (go_at_call 36; refine (V.out _).mono ?_; rintro e w4 ⟨rfl, b4⟩)
  have B4 := Lib.hid (hb b4 B3.out)
  have C4 := Lib.hid (hb b4 C3.out)
  clear k0 k1 k2 k3
  obtain ⟨k0, k1, k2, k3⟩ := Rec.c4 C4.out
  obtain ⟨x0, x1, x2, x3⟩ := Rec.c4 B4.out
  obtain ⟨y0, y1, y2, y3⟩ := Rec.f4 B4.out
  have X0 := Lib.hid (Rec.st4 B4.out (.string ⟨⟨s0⟩⟩) (.string ⟨⟨s1⟩⟩) (.string ⟨⟨s2⟩⟩) (.string ⟨⟨s3⟩⟩))
  have XL := Lib.hid (((((Buf.then_ W0.out (Buf.then_ W1.out (Buf.then_ W3.out b4))).setCell (p := ⟨w.heap.size, 0, none⟩) (Nat.le_refl _) (.string ⟨⟨s0⟩⟩)).setCell (p := ⟨w.heap.size, 1, none⟩) (Nat.le_refl _) (.string ⟨⟨s1⟩⟩)).setCell (p := ⟨w.heap.size, 2, none⟩) (Nat.le_refl _) (.string ⟨⟨s2⟩⟩)).setCell (p := ⟨w.heap.size, 3, none⟩) (Nat.le_refl _) (.string ⟨⟨s3⟩⟩))
  go_wp2_with fail
  exact bodyPost_ret (Res.row_tmp rfl _ _ w.heap.size _ _ _ _ rfl X0.out rfl (by rfl) rfl) rfl ⟨rfl, XL.out⟩
end Sc
end Go.Proofs.YtfebacopbacopaaDoor
