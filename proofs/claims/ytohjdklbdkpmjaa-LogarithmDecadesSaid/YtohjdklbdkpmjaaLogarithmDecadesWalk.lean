/- The walk of LogarithmDecades. -/
import Derived.Test.YtohjdklbdkpmjaaLogC
namespace Go.Proofs.Ytohjdklbdkpmjaa
open Go.RowKit Log
namespace Laws
set_option maxHeartbeats 1000000 in
theorem logarithmDecades_walk (a0 : Int) (_w0 : (Lit.int .i64 a0).wf = true) (w : World) :
    Calls Try.prog 3 #[.int .i64 a0] w fun e w' => e = .returned (.bool true) ∧ Below w.heap.size w w' := by
  have m0 : 0 ≤ a0 % 33554433 := by omega
  have m1 : a0 % 33554433 < 33554433 := by omega
  have M : Hid (∀ w, Calls Try.prog 9 #[.int .i64 a0, .int .i64 33554433] w fun e w' => e = .returned (.int .i64 (a0 % 33554433)) ∧ w' = w) := Lib.hid fun w => Keep.mod_any a0 33554433 w (by omega) (by omega)
  generalize a0 % 33554433 = l at *
  have F : Hid (∀ w, Calls Try.prog 10 #[.int .i64 (l - 16777216)] w fun e w' => e = .returned (.int .i64 ((l - 16777216) * 30103 / 256000)) ∧ w' = w) := Lib.hid fun w => floor_any _ w (by omega) (by omega)
  have C : Hid (∀ w, Calls Try.prog 11 #[.int .i64 (l - 16777216)] w fun e w' => e = .returned (.int .i64 (-(-(l - 16777216) * 30103 / 256000))) ∧ w' = w) := Lib.hid fun w => ceil_any _ w (by omega) (by omega)
  have C2 : Hid (∀ w, Calls Try.prog 11 #[.int .i64 (-(l - 16777216))] w fun e w' => e = .returned (.int .i64 (-((l - 16777216) * 30103 / 256000))) ∧ w' = w) := Lib.hid fun w => by
    have := ceil_any (-(l - 16777216)) w (by omega) (by omega)
    rwa [Int.neg_neg] at this
  have f0 : (l - 16777216) * 30103 / 256000 * 256000 ≤ (l - 16777216) * 30103 := by omega
  have f1 : (l - 16777216) * 30103 < ((l - 16777216) * 30103 / 256000 + 1) * 256000 := by omega
  have g0 : (l - 16777216) * 30103 ≤ -(-(l - 16777216) * 30103 / 256000) * 256000 := by omega
  have g1 : (-(-(l - 16777216) * 30103 / 256000) - 1) * 256000 < (l - 16777216) * 30103 := by omega
  generalize (l - 16777216) * 30103 / 256000 = f at *
  generalize -(-(l - 16777216) * 30103 / 256000) = c at *
  go_enter Try.func3, Try.ntmps3
  go_wp2_with (first
    | (go_at_call 9; with_reducible refine (M.out _).mono ?_; rintro e w1 ⟨rfl, rfl⟩)
    | (go_at_call 10; with_reducible refine (F.out _).mono ?_; rintro e w1 ⟨rfl, rfl⟩)
    | (go_at_call 11; (first | with_reducible refine (C.out _).mono ?_ | with_reducible refine (C2.out _).mono ?_); rintro e w1 ⟨rfl, rfl⟩)
    | (go_at_call 12; refine (awake_any _).mono ?_; rintro e w1 ⟨rfl, hb⟩))
  go_ret
  exact ⟨rfl, hb⟩
end Laws
end Go.Proofs.Ytohjdklbdkpmjaa
