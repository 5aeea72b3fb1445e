/- The examples of the chapter (sane of the source's laws). -/
import Derived.Test.YtppbejebmlcloaaDoorSrcF
import Derived.Laws.StructEq
set_option linter.unusedVariables false
set_option linter.unusedSimpArgs false
namespace Go.Proofs.YtppbejebmlcloaaDoor
open Go.RowKit Dice
namespace Sc
theorem src_ex : Src4 [71, 82] [70, 85, 82] [] [72, 72, 90] :=
  ⟨code_of (by decide), code_of (by decide), code_of (by decide), code_of (by decide), by decide, by decide, .inl rfl, rfl⟩
theorem part_of {l : List UInt8} (h : l.length ≤ 8) (k : ∀ b ∈ l, cap (b.toNat : Int) = true ∨ b = 63 ∨ b = 42) : Part l := ⟨h, k⟩
set_option maxRecDepth 100000 in
set_option maxHeartbeats 4000000 in
theorem sane_any (w : World) (hm : Mx w) :
    Calls Tryd.prog 7 #[] w fun e w' => e = .returned (.bool true) ∧ Below w.heap.size w w' := by
  have hw : Below w.heap.size w w := Below.refl _ _
  have P : Hid (Calls Tryd.prog 11 #[.string ⟨#[71, 82, 46, 70, 85, 82, 46, 46, 72, 72, 90]⟩] w fun e w' =>
      e = .returned (.tuple #[.agg #[.string ⟨#[71, 82]⟩, .string ⟨#[70, 85, 82]⟩, .string ⟨#[]⟩, .string ⟨#[72, 72, 90]⟩], .int .i64 0]) ∧ Below w.heap.size w w') := Lib.hid (parse_any src_ex w hm)
  have M1 : Hid (∀ w', Mx w' → Calls Tryd.prog 12 #[.string ⟨#[71, 82, 46, 42, 46, 42, 46, 72, 72, 63]⟩, .agg #[.string ⟨#[71, 82]⟩, .string ⟨#[70, 85, 82]⟩, .string ⟨#[]⟩, .string ⟨#[72, 72, 90]⟩]] w' fun e w'' =>
      e = .returned (.tuple #[.bool true, .int .i64 0]) ∧ Below w'.heap.size w' w'') := Lib.hid fun w' h' =>
    match_src (a := [71, 82]) (b := [42]) (c := [42]) (d := [72, 72, 63]) (part_of (by decide) (by decide)) (part_of (by decide) (by decide)) (part_of (by decide) (by decide)) (part_of (by decide) (by decide)) src_ex w' h'
  have M2 : Hid (∀ w', Mx w' → Calls Tryd.prog 12 #[.string ⟨#[71, 82, 46, 70, 42, 46, 48, 48, 46, 42]⟩, .agg #[.string ⟨#[71, 82]⟩, .string ⟨#[70, 85, 82]⟩, .string ⟨#[]⟩, .string ⟨#[72, 72, 90]⟩]] w' fun e w'' =>
      e = .returned (.tuple #[.bool false, .int .i64 0]) ∧ Below w'.heap.size w' w'') := Lib.hid fun w' h' =>
    match_src (a := [71, 82]) (b := [70, 42]) (c := [48, 48]) (d := [42]) (part_of (by decide) (by decide)) (part_of (by decide) (by decide)) (part_of (by decide) (by decide)) (part_of (by decide) (by decide)) src_ex w' h'
  go_enter Tryd.func7, Tryd.ntmps7
  go_upto_region 2 with (go_at_call 11; refine (P.out).mono ?_; rintro e w1 ⟨rfl, b1⟩)
  obtain ⟨w2, hw2⟩ : ∃ w2, w2 = w1.alloc (.cells #[.string ⟨#[71, 82]⟩, .string ⟨#[70, 85, 82]⟩, .string ⟨#[]⟩, .string ⟨#[72, 72, 90]⟩] 28) := ⟨_, rfl⟩
  have W2 := Lib.hid (show Below w1.heap.size w1 w2 by rw [hw2]; exact new_block _)
  obtain ⟨q, hq⟩ : ∃ q, q = w1.heap.size := ⟨_, rfl⟩
  have C2 := Lib.hid (show w2.heap[q]? = some (.cells #[.string ⟨#[71, 82]⟩, .string ⟨#[70, 85, 82]⟩, .string ⟨#[]⟩, .string ⟨#[72, 72, 90]⟩] 28 (0, 0)) by rw [hw2, hq]; exact heap_alloc_new w1 _)
  rw [← hw2, ← hq]
  replace hw2 := Lib.hid hw2
  replace hq := Lib.hid hq
  have H2 := Lib.hid (hm.next (Buf.then_ b1 W2.out))
  obtain ⟨k0, k1, k2, k3⟩ := Rec.c4 C2.out
  go_upto_region 3 with (go_at_call 12; refine (M1.out _ H2.out).mono ?_; rintro e w3 ⟨rfl, b3⟩)
  have C3 := Lib.hid (hb b3 C2.out)
  have H3 := Lib.hid (H2.out.next b3)
  clear k0 k1 k2 k3
  obtain ⟨k0, k1, k2, k3⟩ := Rec.c4 C3.out
  go_upto_region 4 with (go_at_call 12; refine (M2.out _ H3.out).mono ?_; rintro e w4 ⟨rfl, b4⟩)
  have C4 := Lib.hid (hb b4 C3.out)
  clear k0 k1 k2 k3
  obtain ⟨k0, k1, k2, k3⟩ := Rec.c4 C4.out
  go_wp2_with fail
  go_ret
  exact ⟨rfl, Buf.then_ b1 (Buf.then_ W2.out (Buf.then_ b3 b4))⟩
end Sc
end Go.Proofs.YtppbejebmlcloaaDoor
