/- The examples of chapter 4. -/
import Derived.Test.YtmkcheiidhppbaaPut
namespace Go.Proofs.Ytmkcheiidhppbaa
open Go.RowKit
namespace Bits
theorem put_258 (w : World) : Calls Try.prog 62 #[.string ⟨#[]⟩, .int .i64 258, .int .i64 2] w fun e w' => e = .returned (.tuple #[.string ⟨#[1, 2]⟩, .int .i64 0]) ∧ Below w.heap.size w w' :=
  put_yes ⟨#[]⟩ 258 2 w (by decide) (by decide) (by decide) (by decide)
theorem sane_any (w : World) : Calls Try.prog 61 #[] w fun e w' => e = .returned (.bool true) ∧ Below w.heap.size w w' := by
  have c2 := fun w => wrap_yes (-1) 8 w (by decide) (by decide) (by decide) (by decide)
  have c3 := fun w => setPair_yes 0 15 3 w (by decide) (by decide) (by decide) (by decide) (by decide) (by decide)
  have C2 := Lib.hid c2
  have C3 := Lib.hid c3
  clear c2 c3
  go_enter Try.func61, Try.ntmps61
  go_wp2_with (first | (go_at_call 62; refine (put_258 _).mono ?_; rintro e w1 ⟨rfl, hb⟩) | (go_at_call 66; refine (C2.out _).mono ?_; rintro e w' ⟨rfl, m, rfl⟩) | (go_at_call 74; refine (C3.out _).mono ?_; rintro e w' ⟨rfl, m, rfl⟩))
  go_ret
  exact ⟨rfl, Buf.below_drewN hb _⟩
end Bits
end Go.Proofs.Ytmkcheiidhppbaa
