/- cmp.Compare and cmp.Or of integers. -/
import Derived.Test.YtjgbidnijfecoaaWithin
import Derived.Test.YtjgbidnijfecoaaDice
set_option linter.unusedVariables false
namespace Go.Proofs.Ytjgbidnijfecoaa
open Go.RowKit Wi Dice
namespace Lnk
def cmpI (x y : Int) : Int := if x < y then -1 else if y < x then 1 else 0
theorem isNaN_any (x : Int) (w : World) : Calls Try.prog 33 #[.int .i64 x] w fun e w' => e = .returned (.bool false) ∧ w' = w := by
  have e : (x != x) = false := by simp
  go_enter Try.func33, Try.ntmps33
  go_wp2
  go_ret
  exact ⟨rfl, rfl⟩
theorem compareI_any (x y : Int) (w : World) : Calls Try.prog 30 #[.int .i64 x, .int .i64 y] w fun e w' => e = .returned (.int .i64 (cmpI x y)) ∧ w' = w := by
  have N := isNaN_any
  unfold cmpI
  go_enter Try.func30, Try.ntmps30
  by_cases h1 : x < y
  · rw [if_pos h1]
    go_wp2_with (go_at_call 33; refine (N _ _).mono ?_; rintro e w1 ⟨rfl, rfl⟩)
    go_ret
    exact ⟨rfl, rfl⟩
  · rw [if_neg h1]
    by_cases h2 : y < x
    · rw [if_pos h2]
      go_wp2_with (go_at_call 33; refine (N _ _).mono ?_; rintro e w1 ⟨rfl, rfl⟩)
      go_ret
      exact ⟨rfl, rfl⟩
    · rw [if_neg h2]
      go_wp2_with (go_at_call 33; refine (N _ _).mono ?_; rintro e w1 ⟨rfl, rfl⟩)
      go_ret
      exact ⟨rfl, rfl⟩
theorem or_any {w : World} {g : Nat} (x y r : Int) (hr : r = if x = 0 then y else x) (h0 : w.cell? ⟨g, 0, none⟩ = some (.int .i64 x)) (h1 : w.cell? ⟨g, 1, none⟩ = some (.int .i64 y)) :
    Calls Try.prog 29 #[.slice (some ⟨g, 0, none⟩) 2 2] w fun e w' => e = .returned (.int .i64 r) ∧ w' = w := by
  go_enter Try.func29, Try.ntmps29
  go_wp2_with fail
  go_loop [8] (fun i => i = .int .i64 0 ∨ (i = .int .i64 1 ∧ x = 0) ∨ (i = .int .i64 2 ∧ x = 0 ∧ y = 0)) (fun i => 2 - (intOf i).toNat)
  case atStart => exact .inl rfl
  case round =>
    rcases hrel with rfl | ⟨rfl, e⟩ | ⟨rfl, e, e'⟩
    · by_cases hx : x = 0
      · have hb : (x != 0) = false := by simp [hx]
        go_wp2_with fail
        go_round
        case rel => exact .inr (.inl ⟨rfl, hx⟩)
        case measure => simp [intOf]
      · have hb : (x != 0) = true := by simp [hx]
        rw [if_neg hx] at hr
        subst hr
        go_wp2_with fail
        go_ret
        exact ⟨rfl, rfl⟩
    · by_cases hy : y = 0
      · have hb : (y != 0) = false := by simp [hy]
        go_wp2_with fail
        go_round
        case rel => exact .inr (.inr ⟨rfl, e, hy⟩)
        case measure => simp [intOf]
      · have hb : (y != 0) = true := by simp [hy]
        rw [if_pos e] at hr
        subst hr
        go_wp2_with fail
        go_ret
        exact ⟨rfl, rfl⟩
    · rw [if_pos e, e'] at hr
      subst hr
      go_wp2_with fail
      go_ret
      exact ⟨rfl, rfl⟩
end Lnk
end Go.Proofs.Ytjgbidnijfecoaa
