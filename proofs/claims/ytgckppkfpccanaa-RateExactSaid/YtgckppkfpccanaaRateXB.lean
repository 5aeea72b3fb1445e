/- The index of a sample at any input, of the program and of the reference. -/
import Derived.Test.YtgckppkfpccanaaRateXA
namespace Go.Proofs.Ytgckppkfpccanaa
open Go.RowKit Dice
namespace Rate
set_option linter.unusedVariables false
theorem index_inv (st n d t : Int) (h : ¬ RV n d) (w : World) :
    Calls Try.prog 16 #[.int .i64 st, .agg #[.int .i64 n, .int .i64 d], .int .i64 t] w fun e w' => e = .returned (.tuple #[.int .i64 0, .int .i64 1]) ∧ Below w.heap.size w w' := by
  go_enter Try.func16, Try.ntmps16
  go_wp2_with (first | (go_at_call 35; refine (check_inv st n d t h _).mono ?_; rintro e w1 ⟨rfl, hb⟩; have hW : Below (w.heap.size + 1) (w.alloc (.cells #[.int .i64 n, .int .i64 d] 24)) w1 := (by simpa using hb); clear hb; obtain ⟨c0, c1⟩ := boxed hW))
  go_ret2
  exact ⟨rfl, boxed_out hW⟩
theorem index_no (st n d t : Int) (h : RV n d) (s : (st < 0 ∨ 9007199254740992 < st) ∨ (t < 0 ∨ 18014398509481984 < t)) (w : World) :
    Calls Try.prog 16 #[.int .i64 st, .agg #[.int .i64 n, .int .i64 d], .int .i64 t] w fun e w' => e = .returned (.tuple #[.int .i64 0, .int .i64 2]) ∧ Below w.heap.size w w' := by
  go_enter Try.func16, Try.ntmps16
  go_wp2_with (first | (go_at_call 35; refine (check_no st n d t h _ s).mono ?_; rintro e w1 ⟨rfl, hb⟩; have hW : Below (w.heap.size + 1) (w.alloc (.cells #[.int .i64 n, .int .i64 d] 24)) w1 := (by simpa using hb); clear hb; obtain ⟨c0, c1⟩ := boxed hW))
  go_ret2
  exact ⟨rfl, boxed_out hW⟩
theorem refindex_inv (st n d t : Int) (h : ¬ RV n d) (w : World) :
    Calls Try.prog 17 #[.int .i64 st, .agg #[.int .i64 n, .int .i64 d], .int .i64 t] w fun e w' => e = .returned (.tuple #[.int .i64 0, .int .i64 1]) ∧ Below w.heap.size w w' := by
  go_enter Try.func17, Try.ntmps17
  go_wp2_with (first | (go_at_call 37; refine (refcheck_inv st n d t h _).mono ?_; rintro e w1 ⟨rfl, hb⟩; have hW : Below (w.heap.size + 1) (w.alloc (.cells #[.int .i64 n, .int .i64 d] 24)) w1 := (by simpa using hb); clear hb; obtain ⟨c0, c1⟩ := boxed hW))
  go_ret2
  exact ⟨rfl, boxed_out hW⟩
theorem refindex_no (st n d t : Int) (h : RV n d) (s : (st < 0 ∨ 9007199254740992 < st) ∨ (t < 0 ∨ 18014398509481984 < t)) (w : World) :
    Calls Try.prog 17 #[.int .i64 st, .agg #[.int .i64 n, .int .i64 d], .int .i64 t] w fun e w' => e = .returned (.tuple #[.int .i64 0, .int .i64 2]) ∧ Below w.heap.size w w' := by
  go_enter Try.func17, Try.ntmps17
  go_wp2_with (first | (go_at_call 37; refine (refcheck_no st n d t h _ s).mono ?_; rintro e w1 ⟨rfl, hb⟩; have hW : Below (w.heap.size + 1) (w.alloc (.cells #[.int .i64 n, .int .i64 d] 24)) w1 := (by simpa using hb); clear hb; obtain ⟨c0, c1⟩ := boxed hW))
  go_ret2
  exact ⟨rfl, boxed_out hW⟩
theorem index_before (st n d t : Int) (h : RV n d) (w : World) (s0 : 0 ≤ st) (s1 : st ≤ 9007199254740992) (t0 : 0 ≤ t) (t1 : t < st) :
    Calls Try.prog 16 #[.int .i64 st, .agg #[.int .i64 n, .int .i64 d], .int .i64 t] w fun e w' => e = .returned (.tuple #[.int .i64 (-1), .int .i64 0]) ∧ Below w.heap.size w w' := by
  have hdec : decide (t < st) = true := by simp; omega
  go_enter Try.func16, Try.ntmps16
  go_wp2_with (first | (go_at_call 35; refine (check_ok st n d t h _ s0 s1 t0 (by omega)).mono ?_; rintro e w1 ⟨rfl, hb⟩; have hW : Below (w.heap.size + 1) (w.alloc (.cells #[.int .i64 n, .int .i64 d] 24)) w1 := (by simpa using hb); clear hb; obtain ⟨c0, c1⟩ := boxed hW))
  go_ret2
  exact ⟨rfl, boxed_out hW⟩
theorem refindex_before (st n d t : Int) (h : RV n d) (w : World) (s0 : 0 ≤ st) (s1 : st ≤ 9007199254740992) (t0 : 0 ≤ t) (t1 : t < st) :
    Calls Try.prog 17 #[.int .i64 st, .agg #[.int .i64 n, .int .i64 d], .int .i64 t] w fun e w' => e = .returned (.tuple #[.int .i64 (-1), .int .i64 0]) ∧ Below w.heap.size w w' := by
  have hdec : decide (t < st) = true := by simp; omega
  go_enter Try.func17, Try.ntmps17
  go_wp2_with (first | (go_at_call 37; refine (refcheck_ok st n d t h _ s0 s1 t0 (by omega)).mono ?_; rintro e w1 ⟨rfl, hb⟩; have hW : Below (w.heap.size + 1) (w.alloc (.cells #[.int .i64 n, .int .i64 d] 24)) w1 := (by simpa using hb); clear hb; obtain ⟨c0, c1⟩ := boxed hW))
  go_ret2
  exact ⟨rfl, boxed_out hW⟩
theorem lt_half (a b : Int) (h : a < b) : a + 1 ≤ (a + b + 1) / 2 ∧ (a + b + 1) / 2 ≤ b := by omega
set_option maxRecDepth 100000 in
theorem refindex_ok (st n d t : Int) (h : RV n d) (w : World) (s0 : 0 ≤ st) (s1 : st ≤ 9007199254740992) (t0 : st ≤ t) (t1 : t ≤ 18014398509481984) :
    Calls Try.prog 17 #[.int .i64 st, .agg #[.int .i64 n, .int .i64 d], .int .i64 t] w fun e w' => e = .returned (.tuple #[.int .i64 (lastF n d (t - st)), .int .i64 0]) ∧ Below w.heap.size w w' := by
  have hdec : decide (t < st) = false := by simp; omega
  have F0 : Hid (∀ k, k ≤ 16777216 → el n d k ≤ t - st → (k = 16777216 ∨ t - st < el n d (k + 1)) → k = lastF n d (t - st)) := Lib.hid fun k => lastF_of n d (t - st) k h.n1 h.d1
  have F1 : Hid (∀ k, 0 ≤ k → k ≤ 16777217 → 0 ≤ el n d k ∧ el n d k ≤ 68719480832000000) := Lib.hid fun k => el_bd n d k h.n1 h.d1 h.d2
  have F2 : Hid (∀ k, 0 ≤ k → k ≤ 16777216 → ∀ w, Calls Try.prog 15 #[.int .i64 st, .agg #[.int .i64 n, .int .i64 d], .int .i64 k] w fun e w' => e = .returned (.tuple #[.int .i64 (st + el n d k), .int .i64 0]) ∧ Below w.heap.size w w') := Lib.hid fun k k0 k1 w => reftime_ok st n d k h w s0 s1 k0 k1
  have Z0 : Hid (el n d 0 ≤ t - st) := Lib.hid (by unfold el; simp; omega)
  obtain ⟨L, hL⟩ : ∃ L, lastF n d (t - st) = L := ⟨_, rfl⟩
  rw [hL] at F0 ⊢
  clear hL
  go_enter Try.func17, Try.ntmps17
  go_wp2_with (first | (go_at_call 37; refine (refcheck_ok st n d t h _ s0 s1 (by omega) t1).mono ?_; rintro e w1 ⟨rfl, hb⟩; have hW : Below (w.heap.size + 1) (w.alloc (.cells #[.int .i64 n, .int .i64 d] 24)) w1 := (by simpa using hb); clear hb; obtain ⟨c0, c1⟩ := boxed hW))
  clear c0 c1
  go_loopw [9, 10] (fun u v wr => ∃ lo hi : Int, u = .int .i64 lo ∧ v = .int .i64 hi ∧ 0 ≤ lo ∧ lo ≤ hi ∧ hi ≤ 16777216 ∧ Hid (el n d lo ≤ t - st) ∧ Hid (hi = 16777216 ∨ t - st < el n d (hi + 1)) ∧ Below (w.heap.size + 1) (w.alloc (.cells #[.int .i64 n, .int .i64 d] 24)) wr) (fun u v _ => (intOf v - intOf u).toNat)
  case atStart => exact ⟨0, 16777216, rfl, rfl, by omega, by omega, by omega, Z0, Lib.hid (.inl rfl), hW⟩
  case round =>
    clear hW
    obtain ⟨lo, hi, rfl, rfl, l0, l1, l2, E0, E1, hW⟩ := hrel
    obtain ⟨c0, c1⟩ := boxed hW
    by_cases hc : lo < hi
    · obtain ⟨m0, m1⟩ := lt_half lo hi hc
      obtain ⟨f0, f1⟩ := F1.out ((lo + hi + 1) / 2) (by omega) (by omega)
      have G := F2.out ((lo + hi + 1) / 2) (by omega) (by omega)
      obtain ⟨F, hF⟩ : ∃ F, el n d ((lo + hi + 1) / 2) = F := ⟨_, rfl⟩
      rw [hF] at f0 f1 G
      replace G := Lib.hid G
      by_cases hx : F ≤ t - st
      · have E2 : Hid (el n d ((lo + hi + 1) / 2) ≤ t - st) := Lib.hid (by rw [hF]; exact hx)
        clear hF E0
        go_wp2_with (first | (go_at_call 15; with_reducible refine (G.out _).mono ?_; rintro e w2 ⟨rfl, hb2⟩; replace hW := boxed_next hW hb2))
        go_roundw
        case rel => exact ⟨_, _, rfl, rfl, by omega, by omega, by omega, E2, E1, hW⟩
        case measure => simp [intOf]; omega
      · have E2 : Hid ((lo + hi + 1) / 2 - 1 = 16777216 ∨ t - st < el n d ((lo + hi + 1) / 2 - 1 + 1)) := Lib.hid (.inr (by rw [Int.sub_add_cancel, hF]; omega))
        clear hF E1
        go_wp2_with (first | (go_at_call 15; with_reducible refine (G.out _).mono ?_; rintro e w2 ⟨rfl, hb2⟩; replace hW := boxed_next hW hb2))
        go_roundw
        case rel => exact ⟨_, _, rfl, rfl, by omega, by omega, by omega, E0, E2, hW⟩
        case measure => simp [intOf]; omega
    · obtain rfl : lo = hi := by omega
      have hE := F0.out lo l2 E0.out E1.out
      clear E0 E1 F0
      subst hE
      go_wp2
      go_ret2
      exact ⟨rfl, boxed_out hW⟩
end Rate
end Go.Proofs.Ytgckppkfpccanaa
