/- The walk of GeometryRoots. -/
import Derived.Test.YtohjdklbdkpmjaaGeoG
namespace Go.Proofs.Ytohjdklbdkpmjaa
open Go.RowKit
namespace Laws
set_option maxHeartbeats 1000000 in
theorem geometryRoots_walk (a0 : Int) (_w0 : (Lit.int .i64 a0).wf = true) (w : World) :
    Calls Try.prog 7 #[.int .i64 a0] w fun e w' => e = .returned (.bool true) ∧ Below w.heap.size w w' := by
  have m0 : 0 ≤ a0 % 1152921504606846976 := by omega
  have m1 : a0 % 1152921504606846976 < 1152921504606846976 := by omega
  have M : Hid (∀ w, Calls Try.prog 9 #[.int .i64 a0, .int .i64 1152921504606846976] w fun e w' => e = .returned (.int .i64 (a0 % 1152921504606846976)) ∧ w' = w) := Lib.hid fun w => Keep.mod_any a0 1152921504606846976 w (by omega) (by omega)
  generalize a0 % 1152921504606846976 = n at *
  obtain ⟨r0, _, s0, s1⟩ := Root.rt_spec n m0 (by omega)
  have F := Lib.hid fun w => Root.floor_any n w m0 (by omega)
  have C := Lib.hid fun w => Root.ceil_any n w m0 (by omega)
  have hc : Hid (Root.ce n = if Root.rt n 32 * Root.rt n 32 < n then Root.rt n 32 + 1 else Root.rt n 32) := Lib.hid rfl
  have r1 : Root.rt n 32 ≤ 1073741824 := Root.sq_le_of r0 (Int.le_trans s0 (by omega)) (by decide)
  have q0 : 0 ≤ Root.rt n 32 * Root.rt n 32 := Int.mul_nonneg r0 r0
  have q1 : (Root.rt n 32 + 1) * (Root.rt n 32 + 1) ≤ 1073741825 * 1073741825 := Int.mul_le_mul (by omega) (by omega) (by omega) (by decide)
  generalize Root.rt n 32 = r at *
  by_cases hq : r * r < n
  · have he : Root.ce n = r + 1 := by rw [hc.out, if_pos hq]
    rw [he] at C
    clear hc he
    have hne : (r + 1 == 0) = false := by rw [beq_eq_false_iff_ne]; omega
    go_enter Try.func7, Try.ntmps7
    go_wp2_with (first
      | (go_at_call 9; with_reducible refine (M.out _).mono ?_; rintro e w1 ⟨rfl, rfl⟩)
      | (go_at_call 16; with_reducible refine (F.out _).mono ?_; rintro e w1 ⟨rfl, rfl⟩)
      | (go_at_call 17; with_reducible refine (C.out _).mono ?_; rintro e w1 ⟨rfl, rfl⟩)
      | (go_at_call 18; refine (Geo.awake_any _).mono ?_; rintro e w1 ⟨rfl, hb⟩))
    go_ret
    exact ⟨rfl, hb⟩
  · have he : Root.ce n = r := by rw [hc.out, if_neg hq]
    rw [he] at C
    obtain hn : n = r * r := by omega
    have hn1 : n ≤ r * r := by omega
    clear hc he hq hn
    by_cases hz : r = 0
    · subst hz
      go_enter Try.func7, Try.ntmps7
      go_wp2_with (first
        | (go_at_call 9; with_reducible refine (M.out _).mono ?_; rintro e w1 ⟨rfl, rfl⟩)
        | (go_at_call 16; with_reducible refine (F.out _).mono ?_; rintro e w1 ⟨rfl, rfl⟩)
        | (go_at_call 17; with_reducible refine (C.out _).mono ?_; rintro e w1 ⟨rfl, rfl⟩)
        | (go_at_call 18; refine (Geo.awake_any _).mono ?_; rintro e w1 ⟨rfl, hb⟩))
      go_ret
      exact ⟨rfl, hb⟩
    · have hne : (r == 0) = false := by rw [beq_eq_false_iff_ne]; exact hz
      have t0 : (r - 1) * (r - 1) < n := by
        have e : (r - 1) * (r - 1) = r * r - 2 * r + 1 := by rw [Int.sub_mul, Int.mul_sub]; omega
        omega
      have t1 : 0 ≤ (r - 1) * (r - 1) := Int.mul_nonneg (by omega) (by omega)
      go_enter Try.func7, Try.ntmps7
      go_wp2_with (first
        | (go_at_call 9; with_reducible refine (M.out _).mono ?_; rintro e w1 ⟨rfl, rfl⟩)
        | (go_at_call 16; with_reducible refine (F.out _).mono ?_; rintro e w1 ⟨rfl, rfl⟩)
        | (go_at_call 17; with_reducible refine (C.out _).mono ?_; rintro e w1 ⟨rfl, rfl⟩)
        | (go_at_call 18; refine (Geo.awake_any _).mono ?_; rintro e w1 ⟨rfl, hb⟩))
      go_ret
      exact ⟨rfl, hb⟩
end Laws
end Go.Proofs.Ytohjdklbdkpmjaa
