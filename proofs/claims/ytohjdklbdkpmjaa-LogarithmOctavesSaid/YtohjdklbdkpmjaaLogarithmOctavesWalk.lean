/- The walk of LogarithmOctaves. -/
import Derived.Test.YtohjdklbdkpmjaaLogM
namespace Go.Proofs.Ytohjdklbdkpmjaa
open Go.RowKit Log
namespace Laws
set_option maxHeartbeats 1000000 in
theorem logarithmOctaves_walk (a0 : Int) (_w0 : (Lit.int .i64 a0).wf = true) (w : World) :
    Calls Try.prog 4 #[.int .i64 a0] w fun e w' => e = .returned (.bool true) ∧ Below w.heap.size w w' := by
  have m0 : 0 ≤ a0 % 4611686018427387903 := by omega
  have m1 : a0 % 4611686018427387903 < 4611686018427387903 := by omega
  have M : Hid (∀ w, Calls Try.prog 9 #[.int .i64 a0, .int .i64 4611686018427387903] w fun e w' => e = .returned (.int .i64 (a0 % 4611686018427387903)) ∧ w' = w) := Lib.hid fun w => Keep.mod_any a0 4611686018427387903 w (by omega) (by omega)
  generalize a0 % 4611686018427387903 = n at *
  obtain ⟨k, Y, k1, lo, hi, y0, y1, hY, hc⟩ := lg_of (1 + n) (by omega) (by omega)
  have L := Lib.hid hc
  have hdiv : (256 * (k : Int) + Y) / 256 = k := by omega
  clear hc hY
  go_enter Try.func4, Try.ntmps4
  go_wp2_with (first
    | (go_at_call 9; with_reducible refine (M.out _).mono ?_; rintro e w1 ⟨rfl, rfl⟩)
    | (go_at_call 13; with_reducible refine (L.out _).mono ?_; rintro e w1 ⟨rfl, rfl⟩)
    | (go_at_call 12; refine (awake_any _).mono ?_; rintro e w1 ⟨rfl, hb⟩))
  go_ret
  exact ⟨rfl, hb⟩
end Laws
end Go.Proofs.Ytohjdklbdkpmjaa
