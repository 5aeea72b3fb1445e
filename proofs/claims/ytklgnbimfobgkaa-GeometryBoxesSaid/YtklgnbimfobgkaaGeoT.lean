/- The order of positions; Valid of the reference. -/
import Derived.Test.YtklgnbimfobgkaaGeoTN
import Derived.Test.YtklgnbimfobgkaaRootA
namespace Go.Proofs.Ytklgnbimfobgkaa
open Go.RowKit
namespace Geo
set_option maxHeartbeats 1000000 in
theorem rvalid_any (x y z : Int) (w : World) :
    Calls Try.prog 37 #[.agg #[.int .i64 x, .int .i64 y, .int .i64 z]] w fun e w' => e = .returned (.bool (pvB x y z)) ∧ Below w.heap.size w w' := by
  have hW := Lib.hid (new_block (w := w) (.cells #[.int .i64 x, .int .i64 y, .int .i64 z] 23))
  obtain ⟨c1, c2, c3, _, _, _⟩ := cells3 (blk_new w (.cells #[.int .i64 x, .int .i64 y, .int .i64 z] 23))
  cases h : pvB x y z with
  | true =>
    obtain ⟨x0, x1, y0, y1, z0, z1⟩ := pvB_yes h
    clear h
    go_enter Try.func37, Try.ntmps37
    go_wp2
    go_ret
    exact ⟨rfl, hW.out⟩
  | false =>
    have ho : x < -1048576 ∨ (-1048576 ≤ x ∧ 1048576 < x) ∨ (-1048576 ≤ x ∧ x ≤ 1048576 ∧ y < -1048576) ∨ (-1048576 ≤ x ∧ x ≤ 1048576 ∧ -1048576 ≤ y ∧ 1048576 < y) ∨ (-1048576 ≤ x ∧ x ≤ 1048576 ∧ -1048576 ≤ y ∧ y ≤ 1048576 ∧ z < -16384) ∨ (-1048576 ≤ x ∧ x ≤ 1048576 ∧ -1048576 ≤ y ∧ y ≤ 1048576 ∧ -16384 ≤ z ∧ 1048576 < z) := by
      simp only [pvB, decide_eq_false_iff_not] at h; omega
    clear h
    rcases ho with h | ⟨h1, h⟩ | ⟨h1, h2, h⟩ | ⟨h1, h2, h3, h⟩ | ⟨h1, h2, h3, h4, h⟩ | ⟨h1, h2, h3, h4, h5, h⟩
    all_goals
      go_enter Try.func37, Try.ntmps37
      go_wp2
      go_ret
      first
        | exact ⟨rfl, hW.out⟩
        | exact ⟨by show Ending.returned (.bool (decide (z ≤ 1048576))) = _; rw [decide_eq_false (by omega)], hW.out⟩
theorem sign_any (x y : Int) (w : World) : Calls Try.prog 58 #[.int .i64 x, .int .i64 y] w fun e w' => e = .returned (.int .i64 (cmpI x y)) ∧ w' = w := by
  rcases cmpI_cases x y with ⟨h, he⟩ | ⟨h, he⟩ | ⟨rfl, he⟩
  all_goals
    rw [he]
    clear he
    go_enter Try.func58, Try.ntmps58
    go_wp2
    go_ret
    exact ⟨rfl, rfl⟩
set_option maxHeartbeats 1000000 in
theorem rcompare_any (a b c d e f : Int) (w : World) :
    Calls Try.prog 39 #[.agg #[.int .i64 a, .int .i64 b, .int .i64 c], .agg #[.int .i64 d, .int .i64 e, .int .i64 f]] w fun r w' => r = .returned (.int .i64 (cmp3 (cmpI a d) (cmpI b e) (cmpI c f))) ∧ Below w.heap.size w w' := by
  have S1 := Lib.hid fun w => sign_any a d w
  have S2 := Lib.hid fun w => sign_any b e w
  have S3 := Lib.hid fun w => sign_any c f w
  have hW := Lib.hid (Buf.then_ (new_block (w := w) (.cells #[.int .i64 a, .int .i64 b, .int .i64 c] 23)) (new_block (.cells #[.int .i64 d, .int .i64 e, .int .i64 f] 23)))
  obtain ⟨k1, k2, k3, _, _, _⟩ := cells3 (blk_alloc (blk_new w (.cells #[.int .i64 a, .int .i64 b, .int .i64 c] 23)) (.cells #[.int .i64 d, .int .i64 e, .int .i64 f] 23))
  obtain ⟨l1, l2, l3, _, _, _⟩ := cells3 (blk_new1 w (.cells #[.int .i64 a, .int .i64 b, .int .i64 c] 23) (.cells #[.int .i64 d, .int .i64 e, .int .i64 f] 23))
  generalize cmpI a d = x at *
  generalize cmpI b e = y at *
  generalize cmpI c f = z at *
  by_cases hx : x = 0
  · subst hx
    by_cases hy : y = 0
    · subst hy
      rw [show cmp3 0 0 z = z from rfl]
      go_enter Try.func39, Try.ntmps39
      go_wp2_with (go_at_call 58; (first | with_reducible refine (S1.out _).mono ?_ | with_reducible refine (S2.out _).mono ?_ | with_reducible refine (S3.out _).mono ?_); rintro e w1 ⟨rfl, rfl⟩)
      go_ret
      exact ⟨rfl, hW.out⟩
    · rw [show cmp3 0 y z = y from by unfold cmp3; rw [if_pos rfl, if_neg hy]]
      have hy' : (y == 0) = false := by rw [beq_eq_false_iff_ne]; exact hy
      go_enter Try.func39, Try.ntmps39
      go_wp2_with (go_at_call 58; (first | with_reducible refine (S1.out _).mono ?_ | with_reducible refine (S2.out _).mono ?_ | with_reducible refine (S3.out _).mono ?_); rintro e w1 ⟨rfl, rfl⟩)
      go_ret
      exact ⟨rfl, hW.out⟩
  · rw [show cmp3 x y z = x from by unfold cmp3; rw [if_neg hx]]
    have hx' : (x == 0) = false := by rw [beq_eq_false_iff_ne]; exact hx
    go_enter Try.func39, Try.ntmps39
    go_wp2_with (go_at_call 58; (first | with_reducible refine (S1.out _).mono ?_ | with_reducible refine (S2.out _).mono ?_ | with_reducible refine (S3.out _).mono ?_); rintro e w1 ⟨rfl, rfl⟩)
    go_ret
    exact ⟨rfl, hW.out⟩
end Geo
end Go.Proofs.Ytklgnbimfobgkaa
