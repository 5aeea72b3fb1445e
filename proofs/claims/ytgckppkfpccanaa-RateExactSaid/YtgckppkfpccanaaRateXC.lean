/- The next and the nearest sample at any input, of the program and of the reference. -/
import Derived.Test.YtgckppkfpccanaaRateXB
import Derived.Test.YtgckppkfpccanaaRateMN
namespace Go.Proofs.Ytgckppkfpccanaa
open Go.RowKit Dice
namespace Rate
set_option linter.unusedVariables false
theorem refnext_err (st n d t c : Int) (IX : Hid (∀ w, Calls Try.prog 17 #[.int .i64 st, .agg #[.int .i64 n, .int .i64 d], .int .i64 t] w fun e w' => e = .returned (.tuple #[.int .i64 0, .int .i64 c]) ∧ Below w.heap.size w w')) (h : (c != 0) = true) (w : World) :
    Calls Try.prog 19 #[.int .i64 st, .agg #[.int .i64 n, .int .i64 d], .int .i64 t] w fun e w' => e = .returned (.tuple #[.int .i64 0, .int .i64 c]) ∧ Below w.heap.size w w' := by
  have TM := Lib.hid True.intro
  have TN := Lib.hid True.intro
  go_enter Try.func19, Try.ntmps19
  go_wp2_with (first | (go_at_call 17; with_reducible refine (IX.out _).mono ?_; rintro e w1 ⟨rfl, hb⟩; have hW : Below (w.heap.size + 1) (w.alloc (.cells #[.int .i64 n, .int .i64 d] 24)) w1 := (by simpa using hb); clear hb; obtain ⟨c0, c1⟩ := boxed hW) | (go_at_call 15; (first | with_reducible refine (TM.out _).mono ?_ | with_reducible refine (TN.out _).mono ?_); rintro e w2 ⟨rfl, hb2⟩; replace hW := boxed_next hW hb2; obtain ⟨c2, c3⟩ := boxed hW))
  go_ret2
  exact ⟨rfl, boxed_out hW⟩
theorem refnext_before (st n d t : Int) (IX : Hid (∀ w, Calls Try.prog 17 #[.int .i64 st, .agg #[.int .i64 n, .int .i64 d], .int .i64 t] w fun e w' => e = .returned (.tuple #[.int .i64 (-1), .int .i64 0]) ∧ Below w.heap.size w w')) (w : World) :
    Calls Try.prog 19 #[.int .i64 st, .agg #[.int .i64 n, .int .i64 d], .int .i64 t] w fun e w' => e = .returned (.tuple #[.int .i64 0, .int .i64 0]) ∧ Below w.heap.size w w' := by
  have TM := Lib.hid True.intro
  have TN := Lib.hid True.intro
  go_enter Try.func19, Try.ntmps19
  go_wp2_with (first | (go_at_call 17; with_reducible refine (IX.out _).mono ?_; rintro e w1 ⟨rfl, hb⟩; have hW : Below (w.heap.size + 1) (w.alloc (.cells #[.int .i64 n, .int .i64 d] 24)) w1 := (by simpa using hb); clear hb; obtain ⟨c0, c1⟩ := boxed hW) | (go_at_call 15; (first | with_reducible refine (TM.out _).mono ?_ | with_reducible refine (TN.out _).mono ?_); rintro e w2 ⟨rfl, hb2⟩; replace hW := boxed_next hW hb2; obtain ⟨c2, c3⟩ := boxed hW))
  go_ret2
  exact ⟨rfl, boxed_out hW⟩
theorem refnext_at (st n d t I T : Int) (IX : Hid (∀ w, Calls Try.prog 17 #[.int .i64 st, .agg #[.int .i64 n, .int .i64 d], .int .i64 t] w fun e w' => e = .returned (.tuple #[.int .i64 I, .int .i64 0]) ∧ Below w.heap.size w w')) (TM : Hid (∀ w, Calls Try.prog 15 #[.int .i64 st, .agg #[.int .i64 n, .int .i64 d], .int .i64 I] w fun e w' => e = .returned (.tuple #[.int .i64 T, .int .i64 0]) ∧ Below w.heap.size w w')) (i0 : 0 ≤ I) (i1 : I ≤ 16777216) (h : (T == t) = true) (w : World) :
    Calls Try.prog 19 #[.int .i64 st, .agg #[.int .i64 n, .int .i64 d], .int .i64 t] w fun e w' => e = .returned (.tuple #[.int .i64 I, .int .i64 0]) ∧ Below w.heap.size w w' := by
  have TN := Lib.hid True.intro
  go_enter Try.func19, Try.ntmps19
  go_wp2_with (first | (go_at_call 17; with_reducible refine (IX.out _).mono ?_; rintro e w1 ⟨rfl, hb⟩; have hW : Below (w.heap.size + 1) (w.alloc (.cells #[.int .i64 n, .int .i64 d] 24)) w1 := (by simpa using hb); clear hb; obtain ⟨c0, c1⟩ := boxed hW) | (go_at_call 15; (first | with_reducible refine (TM.out _).mono ?_ | with_reducible refine (TN.out _).mono ?_); rintro e w2 ⟨rfl, hb2⟩; replace hW := boxed_next hW hb2; obtain ⟨c2, c3⟩ := boxed hW))
  go_ret2
  exact ⟨rfl, boxed_out hW⟩
theorem refnext_lim (st n d t I T : Int) (IX : Hid (∀ w, Calls Try.prog 17 #[.int .i64 st, .agg #[.int .i64 n, .int .i64 d], .int .i64 t] w fun e w' => e = .returned (.tuple #[.int .i64 I, .int .i64 0]) ∧ Below w.heap.size w w')) (TM : Hid (∀ w, Calls Try.prog 15 #[.int .i64 st, .agg #[.int .i64 n, .int .i64 d], .int .i64 I] w fun e w' => e = .returned (.tuple #[.int .i64 T, .int .i64 0]) ∧ Below w.heap.size w w')) (i0 : 0 ≤ I) (i1 : (I == 16777216) = true) (h : (T == t) = false) (w : World) :
    Calls Try.prog 19 #[.int .i64 st, .agg #[.int .i64 n, .int .i64 d], .int .i64 t] w fun e w' => e = .returned (.tuple #[.int .i64 0, .int .i64 6]) ∧ Below w.heap.size w w' := by
  have TN := Lib.hid True.intro
  go_enter Try.func19, Try.ntmps19
  go_wp2_with (first | (go_at_call 17; with_reducible refine (IX.out _).mono ?_; rintro e w1 ⟨rfl, hb⟩; have hW : Below (w.heap.size + 1) (w.alloc (.cells #[.int .i64 n, .int .i64 d] 24)) w1 := (by simpa using hb); clear hb; obtain ⟨c0, c1⟩ := boxed hW) | (go_at_call 15; (first | with_reducible refine (TM.out _).mono ?_ | with_reducible refine (TN.out _).mono ?_); rintro e w2 ⟨rfl, hb2⟩; replace hW := boxed_next hW hb2; obtain ⟨c2, c3⟩ := boxed hW))
  go_ret2
  exact ⟨rfl, boxed_out hW⟩
theorem refnext_up (st n d t I T : Int) (IX : Hid (∀ w, Calls Try.prog 17 #[.int .i64 st, .agg #[.int .i64 n, .int .i64 d], .int .i64 t] w fun e w' => e = .returned (.tuple #[.int .i64 I, .int .i64 0]) ∧ Below w.heap.size w w')) (TM : Hid (∀ w, Calls Try.prog 15 #[.int .i64 st, .agg #[.int .i64 n, .int .i64 d], .int .i64 I] w fun e w' => e = .returned (.tuple #[.int .i64 T, .int .i64 0]) ∧ Below w.heap.size w w')) (i0 : 0 ≤ I) (i2 : I < 16777216) (i1 : (I == 16777216) = false) (h : (T == t) = false) (w : World) :
    Calls Try.prog 19 #[.int .i64 st, .agg #[.int .i64 n, .int .i64 d], .int .i64 t] w fun e w' => e = .returned (.tuple #[.int .i64 (I + 1), .int .i64 0]) ∧ Below w.heap.size w w' := by
  have TN := Lib.hid True.intro
  go_enter Try.func19, Try.ntmps19
  go_wp2_with (first | (go_at_call 17; with_reducible refine (IX.out _).mono ?_; rintro e w1 ⟨rfl, hb⟩; have hW : Below (w.heap.size + 1) (w.alloc (.cells #[.int .i64 n, .int .i64 d] 24)) w1 := (by simpa using hb); clear hb; obtain ⟨c0, c1⟩ := boxed hW) | (go_at_call 15; (first | with_reducible refine (TM.out _).mono ?_ | with_reducible refine (TN.out _).mono ?_); rintro e w2 ⟨rfl, hb2⟩; replace hW := boxed_next hW hb2; obtain ⟨c2, c3⟩ := boxed hW))
  go_ret2
  exact ⟨rfl, boxed_out hW⟩
theorem next_inv (st n d t : Int) (h : ¬ RV n d) (w : World) :
    Calls Try.prog 18 #[.int .i64 st, .agg #[.int .i64 n, .int .i64 d], .int .i64 t] w fun e w' => e = .returned (.tuple #[.int .i64 0, .int .i64 1]) ∧ Below w.heap.size w w' := by
  go_enter Try.func18, Try.ntmps18
  go_wp2_with (first | (go_at_call 35; refine (check_inv st n d t h _).mono ?_; rintro e w1 ⟨rfl, hb⟩; have hW : Below (w.heap.size + 1) (w.alloc (.cells #[.int .i64 n, .int .i64 d] 24)) w1 := (by simpa using hb); clear hb; obtain ⟨c0, c1⟩ := boxed hW))
  go_ret2
  exact ⟨rfl, boxed_out hW⟩
theorem next_no (st n d t : Int) (h : RV n d) (s : (st < 0 ∨ 9007199254740992 < st) ∨ (t < 0 ∨ 18014398509481984 < t)) (w : World) :
    Calls Try.prog 18 #[.int .i64 st, .agg #[.int .i64 n, .int .i64 d], .int .i64 t] w fun e w' => e = .returned (.tuple #[.int .i64 0, .int .i64 2]) ∧ Below w.heap.size w w' := by
  go_enter Try.func18, Try.ntmps18
  go_wp2_with (first | (go_at_call 35; refine (check_no st n d t h _ s).mono ?_; rintro e w1 ⟨rfl, hb⟩; have hW : Below (w.heap.size + 1) (w.alloc (.cells #[.int .i64 n, .int .i64 d] 24)) w1 := (by simpa using hb); clear hb; obtain ⟨c0, c1⟩ := boxed hW))
  go_ret2
  exact ⟨rfl, boxed_out hW⟩
theorem next_lim (st n d t : Int) (h : RV n d) (w : World) (s0 : 0 ≤ st) (s1 : st ≤ 9007199254740992) (t0 : st < t) (t1 : t ≤ 18014398509481984) (hl : lastF n d (t - st - 1) = 16777216) :
    Calls Try.prog 18 #[.int .i64 st, .agg #[.int .i64 n, .int .i64 d], .int .i64 t] w fun e w' => e = .returned (.tuple #[.int .i64 0, .int .i64 6]) ∧ Below w.heap.size w w' := by
  have hdec : decide (t ≤ st) = false := by simp; omega
  have hl0 := (lastF_spec n d (t - st - 1) h.n1 h.d1 (by omega)).1
  obtain ⟨L, hL⟩ : ∃ L, lastF n d (t - st - 1) = L := ⟨_, rfl⟩
  have G : Hid (∀ w, Calls Try.prog 36 #[.agg #[.int .i64 n, .int .i64 d], .int .i64 (t - st - 1)] w fun e w' => e = .returned (.int .i64 L) ∧ Below w.heap.size w w') := by
    intro w; rw [← hL]; exact last_any n d _ h w (by omega) (by omega)
  rw [hL] at hl hl0
  clear hL
  have hd2 : decide (16777216 < L + 1) = true := by simp; omega
  go_enter Try.func18, Try.ntmps18
  go_wp2_with (first | (go_at_call 35; refine (check_ok st n d t h _ s0 s1 (by omega) t1).mono ?_; rintro e w1 ⟨rfl, hb⟩; obtain ⟨c0, c1⟩ := boxed (by simpa using hb)) | (go_at_call 36; with_reducible refine (G.out _).mono ?_; rintro e w2 ⟨rfl, hb2⟩))
  go_ret2
  exact ⟨rfl, Buf.then_ (((Below.refl _ _).alloc (Nat.le_refl _) _).trans (hb.mono (by simp))) hb2⟩
theorem last_at (n d x : Int) (h : RV n d) (x0 : 1 ≤ x) (e : el n d (lastF n d x) = x) : lastF n d (x - 1) + 1 = lastF n d x ∧ lastF n d (x - 1) < 16777216 := by
  obtain ⟨a0, a1, a2, a3⟩ := lastF_spec n d x h.n1 h.d1 (by omega)
  generalize lastF n d x = L at *
  have hz : el n d 0 = 0 := Laws.el_zero n d
  have h1 : L ≠ 0 := fun e0 => by rw [e0, hz] at e; omega
  have hs := Laws.el_step n d (L - 1) h
  rw [Int.sub_add_cancel] at hs
  have hp : L - 1 = lastF n d (x - 1) := lastF_of n d (x - 1) (L - 1) h.n1 h.d1 (by omega) (by omega) (.inr (by rw [Int.sub_add_cancel]; omega))
  omega
theorem last_past (n d x : Int) (h : RV n d) (x0 : 1 ≤ x) (e : el n d (lastF n d x) ≠ x) : lastF n d (x - 1) = lastF n d x := by
  obtain ⟨a0, a1, a2, a3⟩ := lastF_spec n d x h.n1 h.d1 (by omega)
  exact (lastF_of n d (x - 1) _ h.n1 h.d1 a1 (by omega) (by omega)).symm
theorem last_zero (n d : Int) (h : RV n d) : lastF n d 0 = 0 := by
  have hz : el n d 0 = 0 := Laws.el_zero n d
  have hs := Laws.el_step n d 0 h
  exact (lastF_of n d 0 0 h.n1 h.d1 (by omega) (by omega) (.inr (by omega))).symm
theorem next_same (st n d t : Int) : ∃ k e : Int, (∀ w, Calls Try.prog 18 #[.int .i64 st, .agg #[.int .i64 n, .int .i64 d], .int .i64 t] w fun x w' => x = .returned (.tuple #[.int .i64 k, .int .i64 e]) ∧ Below w.heap.size w w') ∧ (∀ w, Calls Try.prog 19 #[.int .i64 st, .agg #[.int .i64 n, .int .i64 d], .int .i64 t] w fun x w' => x = .returned (.tuple #[.int .i64 k, .int .i64 e]) ∧ Below w.heap.size w w') := by
  by_cases h : RV n d
  · by_cases hs : (0 ≤ st ∧ st ≤ 9007199254740992) ∧ (0 ≤ t ∧ t ≤ 18014398509481984)
    · obtain ⟨⟨s0, s1⟩, t0, t1⟩ := hs
      by_cases h1 : t < st
      · exact ⟨0, 0, fun w => next_start st n d t h w s0 s1 t0 (by omega), fun w => refnext_before st n d t (Lib.hid fun w => refindex_before st n d t h w s0 s1 t0 h1) w⟩
      · have h2 : st ≤ t := by omega
        obtain ⟨a0, a1, a2, a3⟩ := lastF_spec n d (t - st) h.n1 h.d1 (by omega)
        have IX : Hid (∀ w, Calls Try.prog 17 #[.int .i64 st, .agg #[.int .i64 n, .int .i64 d], .int .i64 t] w fun e w' => e = .returned (.tuple #[.int .i64 (lastF n d (t - st)), .int .i64 0]) ∧ Below w.heap.size w w') := Lib.hid fun w => refindex_ok st n d t h w s0 s1 h2 t1
        have TM : Hid (∀ w, Calls Try.prog 15 #[.int .i64 st, .agg #[.int .i64 n, .int .i64 d], .int .i64 (lastF n d (t - st))] w fun e w' => e = .returned (.tuple #[.int .i64 (st + el n d (lastF n d (t - st))), .int .i64 0]) ∧ Below w.heap.size w w') := Lib.hid fun w => reftime_ok st n d _ h w s0 s1 a0 a1
        by_cases h3 : t = st
        · have hz : lastF n d (t - st) = 0 := by rw [h3, Int.sub_self]; exact last_zero n d h
          have hw : el n d (lastF n d (t - st)) = 0 := by rw [hz]; exact Laws.el_zero n d
          refine ⟨0, 0, fun w => next_start st n d t h w s0 s1 t0 (by omega), fun w => ?_⟩
          have := refnext_at st n d t _ _ IX TM a0 a1 (by rw [beq_iff_eq]; omega) w
          rwa [hz] at this
        · by_cases h4 : el n d (lastF n d (t - st)) = t - st
          · obtain ⟨b0, b1⟩ := last_at n d (t - st) h (by omega) h4
            refine ⟨lastF n d (t - st), 0, fun w => ?_, fun w => refnext_at st n d t _ _ IX TM a0 a1 (by rw [beq_iff_eq]; omega) w⟩
            have := next_ok st n d t h w s0 s1 (by omega) t1 b1
            rwa [b0] at this
          · have b0 := last_past n d (t - st) h (by omega) h4
            by_cases h5 : lastF n d (t - st) = 16777216
            · exact ⟨0, 6, fun w => next_lim st n d t h w s0 s1 (by omega) t1 (by rw [b0]; exact h5), fun w => refnext_lim st n d t _ _ IX TM a0 (by rw [beq_iff_eq]; exact h5) (by rw [beq_eq_false_iff_ne]; omega) w⟩
            · refine ⟨lastF n d (t - st) + 1, 0, fun w => ?_, fun w => refnext_up st n d t _ _ IX TM a0 (by omega) (by rw [beq_eq_false_iff_ne]; exact h5) (by rw [beq_eq_false_iff_ne]; omega) w⟩
              have := next_ok st n d t h w s0 s1 (by omega) t1 (by rw [b0]; omega)
              rwa [b0] at this
    · have hn : (st < 0 ∨ 9007199254740992 < st) ∨ (t < 0 ∨ 18014398509481984 < t) := by omega
      exact ⟨0, 2, fun w => next_no st n d t h hn w, fun w => refnext_err st n d t 2 (Lib.hid fun w => refindex_no st n d t h hn w) (by decide) w⟩
  · exact ⟨0, 1, fun w => next_inv st n d t h w, fun w => refnext_err st n d t 1 (Lib.hid fun w => refindex_inv st n d t h w) (by decide) w⟩
theorem time_same (st n d k : Int) : ∃ a e : Int, (∀ w, Calls Try.prog 14 #[.int .i64 st, .agg #[.int .i64 n, .int .i64 d], .int .i64 k] w fun x w' => x = .returned (.tuple #[.int .i64 a, .int .i64 e]) ∧ Below w.heap.size w w') ∧ (∀ w, Calls Try.prog 15 #[.int .i64 st, .agg #[.int .i64 n, .int .i64 d], .int .i64 k] w fun x w' => x = .returned (.tuple #[.int .i64 a, .int .i64 e]) ∧ Below w.heap.size w w') := by
  by_cases h : RV n d
  · by_cases hs : (0 ≤ st ∧ st ≤ 9007199254740992) ∧ (0 ≤ k ∧ k ≤ 16777216)
    · obtain ⟨⟨s0, s1⟩, k0, k1⟩ := hs
      exact ⟨_, _, fun w => time_ok st n d k h w s0 s1 k0 k1, fun w => reftime_ok st n d k h w s0 s1 k0 k1⟩
    · exact ⟨0, 2, fun w => time_no st n d k h w (by omega), fun w => reftime_no st n d k h w (by omega)⟩
  · exact ⟨0, 1, fun w => time_inv st n d k h w, fun w => reftime_inv st n d k h w⟩
theorem index_same (st n d t : Int) : ∃ a e : Int, (∀ w, Calls Try.prog 16 #[.int .i64 st, .agg #[.int .i64 n, .int .i64 d], .int .i64 t] w fun x w' => x = .returned (.tuple #[.int .i64 a, .int .i64 e]) ∧ Below w.heap.size w w') ∧ (∀ w, Calls Try.prog 17 #[.int .i64 st, .agg #[.int .i64 n, .int .i64 d], .int .i64 t] w fun x w' => x = .returned (.tuple #[.int .i64 a, .int .i64 e]) ∧ Below w.heap.size w w') := by
  by_cases h : RV n d
  · by_cases hs : (0 ≤ st ∧ st ≤ 9007199254740992) ∧ (0 ≤ t ∧ t ≤ 18014398509481984)
    · obtain ⟨⟨s0, s1⟩, t0, t1⟩ := hs
      by_cases h1 : t < st
      · exact ⟨_, _, fun w => index_before st n d t h w s0 s1 t0 h1, fun w => refindex_before st n d t h w s0 s1 t0 h1⟩
      · exact ⟨_, _, fun w => index_ok st n d t h w s0 s1 (by omega) t1, fun w => refindex_ok st n d t h w s0 s1 (by omega) t1⟩
    · have hn : (st < 0 ∨ 9007199254740992 < st) ∨ (t < 0 ∨ 18014398509481984 < t) := by omega
      exact ⟨0, 2, fun w => index_no st n d t h hn w, fun w => refindex_no st n d t h hn w⟩
  · exact ⟨0, 1, fun w => index_inv st n d t h w, fun w => refindex_inv st n d t h w⟩
theorem refnearest_err (st n d t c : Int) (IX : Hid (∀ w, Calls Try.prog 17 #[.int .i64 st, .agg #[.int .i64 n, .int .i64 d], .int .i64 t] w fun e w' => e = .returned (.tuple #[.int .i64 0, .int .i64 c]) ∧ Below w.heap.size w w')) (h : (c != 0) = true) (w : World) :
    Calls Try.prog 21 #[.int .i64 st, .agg #[.int .i64 n, .int .i64 d], .int .i64 t] w fun e w' => e = .returned (.tuple #[.int .i64 0, .int .i64 0, .int .i64 c]) ∧ Below w.heap.size w w' := by
  have TM := Lib.hid True.intro
  have TN := Lib.hid True.intro
  go_enter Try.func21, Try.ntmps21
  go_wp2_with (first | (go_at_call 17; with_reducible refine (IX.out _).mono ?_; rintro e w1 ⟨rfl, hb⟩; have hW : Below (w.heap.size + 1) (w.alloc (.cells #[.int .i64 n, .int .i64 d] 24)) w1 := (by simpa using hb); clear hb; obtain ⟨c0, c1⟩ := boxed hW) | (go_at_call 15; (first | with_reducible refine (TM.out _).mono ?_ | with_reducible refine (TN.out _).mono ?_); rintro e w2 ⟨rfl, hb2⟩; replace hW := boxed_next hW hb2; obtain ⟨c2, c3⟩ := boxed hW))
  go_ret3
  exact ⟨rfl, boxed_out hW⟩
theorem refnearest_before (st n d t : Int) (IX : Hid (∀ w, Calls Try.prog 17 #[.int .i64 st, .agg #[.int .i64 n, .int .i64 d], .int .i64 t] w fun e w' => e = .returned (.tuple #[.int .i64 (-1), .int .i64 0]) ∧ Below w.heap.size w w')) (s0 : 0 ≤ st) (s1 : st ≤ 9007199254740992) (t0 : 0 ≤ t) (t1 : t < st) (w : World) :
    Calls Try.prog 21 #[.int .i64 st, .agg #[.int .i64 n, .int .i64 d], .int .i64 t] w fun e w' => e = .returned (.tuple #[.int .i64 0, .int .i64 (t - st), .int .i64 0]) ∧ Below w.heap.size w w' := by
  have TM := Lib.hid True.intro
  have TN := Lib.hid True.intro
  go_enter Try.func21, Try.ntmps21
  go_wp2_with (first | (go_at_call 17; with_reducible refine (IX.out _).mono ?_; rintro e w1 ⟨rfl, hb⟩; have hW : Below (w.heap.size + 1) (w.alloc (.cells #[.int .i64 n, .int .i64 d] 24)) w1 := (by simpa using hb); clear hb; obtain ⟨c0, c1⟩ := boxed hW) | (go_at_call 15; (first | with_reducible refine (TM.out _).mono ?_ | with_reducible refine (TN.out _).mono ?_); rintro e w2 ⟨rfl, hb2⟩; replace hW := boxed_next hW hb2; obtain ⟨c2, c3⟩ := boxed hW))
  go_ret3
  exact ⟨rfl, boxed_out hW⟩
theorem refnearest_end (st n d t I T : Int) (IX : Hid (∀ w, Calls Try.prog 17 #[.int .i64 st, .agg #[.int .i64 n, .int .i64 d], .int .i64 t] w fun e w' => e = .returned (.tuple #[.int .i64 I, .int .i64 0]) ∧ Below w.heap.size w w')) (TM : Hid (∀ w, Calls Try.prog 15 #[.int .i64 st, .agg #[.int .i64 n, .int .i64 d], .int .i64 I] w fun e w' => e = .returned (.tuple #[.int .i64 T, .int .i64 0]) ∧ Below w.heap.size w w')) (i0 : 0 ≤ I) (t0 : 0 ≤ t) (t1 : t ≤ 18014398509481984) (a0 : 0 ≤ T) (a1 : T ≤ 77726680086740992) (i1 : ¬ I < 16777216) (w : World) :
    Calls Try.prog 21 #[.int .i64 st, .agg #[.int .i64 n, .int .i64 d], .int .i64 t] w fun e w' => e = .returned (.tuple #[.int .i64 I, .int .i64 (t - T), .int .i64 0]) ∧ Below w.heap.size w w' := by
  have TN := Lib.hid True.intro
  go_enter Try.func21, Try.ntmps21
  go_wp2_with (first | (go_at_call 17; with_reducible refine (IX.out _).mono ?_; rintro e w1 ⟨rfl, hb⟩; have hW : Below (w.heap.size + 1) (w.alloc (.cells #[.int .i64 n, .int .i64 d] 24)) w1 := (by simpa using hb); clear hb; obtain ⟨c0, c1⟩ := boxed hW) | (go_at_call 15; (first | with_reducible refine (TM.out _).mono ?_ | with_reducible refine (TN.out _).mono ?_); rintro e w2 ⟨rfl, hb2⟩; replace hW := boxed_next hW hb2; obtain ⟨c2, c3⟩ := boxed hW))
  go_ret3
  exact ⟨rfl, boxed_out hW⟩
theorem refnearest_here (st n d t I T U : Int) (IX : Hid (∀ w, Calls Try.prog 17 #[.int .i64 st, .agg #[.int .i64 n, .int .i64 d], .int .i64 t] w fun e w' => e = .returned (.tuple #[.int .i64 I, .int .i64 0]) ∧ Below w.heap.size w w')) (TM : Hid (∀ w, Calls Try.prog 15 #[.int .i64 st, .agg #[.int .i64 n, .int .i64 d], .int .i64 I] w fun e w' => e = .returned (.tuple #[.int .i64 T, .int .i64 0]) ∧ Below w.heap.size w w')) (TN : Hid (∀ w, Calls Try.prog 15 #[.int .i64 st, .agg #[.int .i64 n, .int .i64 d], .int .i64 (I + 1)] w fun e w' => e = .returned (.tuple #[.int .i64 U, .int .i64 0]) ∧ Below w.heap.size w w')) (i0 : 0 ≤ I) (t0 : 0 ≤ t) (t1 : t ≤ 18014398509481984) (a0 : 0 ≤ T) (a1 : T ≤ 77726680086740992) (b0 : 0 ≤ U) (b1 : U ≤ 77726680086740992) (i1 : I < 16777216) (h : ¬ U - t < t - T) (w : World) :
    Calls Try.prog 21 #[.int .i64 st, .agg #[.int .i64 n, .int .i64 d], .int .i64 t] w fun e w' => e = .returned (.tuple #[.int .i64 I, .int .i64 (t - T), .int .i64 0]) ∧ Below w.heap.size w w' := by
  go_enter Try.func21, Try.ntmps21
  go_wp2_with (first | (go_at_call 17; with_reducible refine (IX.out _).mono ?_; rintro e w1 ⟨rfl, hb⟩; have hW : Below (w.heap.size + 1) (w.alloc (.cells #[.int .i64 n, .int .i64 d] 24)) w1 := (by simpa using hb); clear hb; obtain ⟨c0, c1⟩ := boxed hW) | (go_at_call 15; (first | with_reducible refine (TM.out _).mono ?_ | with_reducible refine (TN.out _).mono ?_); rintro e w2 ⟨rfl, hb2⟩; replace hW := boxed_next hW hb2; obtain ⟨c2, c3⟩ := boxed hW))
  go_ret3
  exact ⟨rfl, boxed_out hW⟩
theorem refnearest_up (st n d t I T U : Int) (IX : Hid (∀ w, Calls Try.prog 17 #[.int .i64 st, .agg #[.int .i64 n, .int .i64 d], .int .i64 t] w fun e w' => e = .returned (.tuple #[.int .i64 I, .int .i64 0]) ∧ Below w.heap.size w w')) (TM : Hid (∀ w, Calls Try.prog 15 #[.int .i64 st, .agg #[.int .i64 n, .int .i64 d], .int .i64 I] w fun e w' => e = .returned (.tuple #[.int .i64 T, .int .i64 0]) ∧ Below w.heap.size w w')) (TN : Hid (∀ w, Calls Try.prog 15 #[.int .i64 st, .agg #[.int .i64 n, .int .i64 d], .int .i64 (I + 1)] w fun e w' => e = .returned (.tuple #[.int .i64 U, .int .i64 0]) ∧ Below w.heap.size w w')) (i0 : 0 ≤ I) (t0 : 0 ≤ t) (t1 : t ≤ 18014398509481984) (a0 : 0 ≤ T) (a1 : T ≤ 77726680086740992) (b0 : 0 ≤ U) (b1 : U ≤ 77726680086740992) (i1 : I < 16777216) (h : U - t < t - T) (w : World) :
    Calls Try.prog 21 #[.int .i64 st, .agg #[.int .i64 n, .int .i64 d], .int .i64 t] w fun e w' => e = .returned (.tuple #[.int .i64 (I + 1), .int .i64 (t - U), .int .i64 0]) ∧ Below w.heap.size w w' := by
  go_enter Try.func21, Try.ntmps21
  go_wp2_with (first | (go_at_call 17; with_reducible refine (IX.out _).mono ?_; rintro e w1 ⟨rfl, hb⟩; have hW : Below (w.heap.size + 1) (w.alloc (.cells #[.int .i64 n, .int .i64 d] 24)) w1 := (by simpa using hb); clear hb; obtain ⟨c0, c1⟩ := boxed hW) | (go_at_call 15; (first | with_reducible refine (TM.out _).mono ?_ | with_reducible refine (TN.out _).mono ?_); rintro e w2 ⟨rfl, hb2⟩; replace hW := boxed_next hW hb2; obtain ⟨c2, c3⟩ := boxed hW))
  go_ret3
  exact ⟨rfl, boxed_out hW⟩
theorem nearest_inv (st n d t : Int) (h : ¬ RV n d) (w : World) :
    Calls Try.prog 20 #[.int .i64 st, .agg #[.int .i64 n, .int .i64 d], .int .i64 t] w fun e w' => e = .returned (.tuple #[.int .i64 0, .int .i64 0, .int .i64 1]) ∧ Below w.heap.size w w' := by
  go_enter Try.func20, Try.ntmps20
  go_wp2_with (first | (go_at_call 35; refine (check_inv st n d t h _).mono ?_; rintro e w1 ⟨rfl, hb⟩; have hW : Below (w.heap.size + 1) (w.alloc (.cells #[.int .i64 n, .int .i64 d] 24)) w1 := (by simpa using hb); clear hb; obtain ⟨c0, c1⟩ := boxed hW))
  go_ret3
  exact ⟨rfl, boxed_out hW⟩
theorem nearest_no (st n d t : Int) (h : RV n d) (s : (st < 0 ∨ 9007199254740992 < st) ∨ (t < 0 ∨ 18014398509481984 < t)) (w : World) :
    Calls Try.prog 20 #[.int .i64 st, .agg #[.int .i64 n, .int .i64 d], .int .i64 t] w fun e w' => e = .returned (.tuple #[.int .i64 0, .int .i64 0, .int .i64 2]) ∧ Below w.heap.size w w' := by
  go_enter Try.func20, Try.ntmps20
  go_wp2_with (first | (go_at_call 35; refine (check_no st n d t h _ s).mono ?_; rintro e w1 ⟨rfl, hb⟩; have hW : Below (w.heap.size + 1) (w.alloc (.cells #[.int .i64 n, .int .i64 d] 24)) w1 := (by simpa using hb); clear hb; obtain ⟨c0, c1⟩ := boxed hW))
  go_ret3
  exact ⟨rfl, boxed_out hW⟩
theorem nearest_before (st n d t : Int) (h : RV n d) (w : World) (s0 : 0 ≤ st) (s1 : st ≤ 9007199254740992) (t0 : 0 ≤ t) (t1 : t < st) :
    Calls Try.prog 20 #[.int .i64 st, .agg #[.int .i64 n, .int .i64 d], .int .i64 t] w fun e w' => e = .returned (.tuple #[.int .i64 0, .int .i64 (t - st), .int .i64 0]) ∧ Below w.heap.size w w' := by
  have hdec : decide (t < st) = true := by simp; omega
  go_enter Try.func20, Try.ntmps20
  go_wp2_with (first | (go_at_call 35; refine (check_ok st n d t h _ s0 s1 t0 (by omega)).mono ?_; rintro e w1 ⟨rfl, hb⟩; have hW : Below (w.heap.size + 1) (w.alloc (.cells #[.int .i64 n, .int .i64 d] 24)) w1 := (by simpa using hb); clear hb; obtain ⟨c0, c1⟩ := boxed hW))
  go_ret3
  exact ⟨rfl, boxed_out hW⟩
theorem nearest_same (st n d t : Int) : ∃ k v e : Int, (∀ w, Calls Try.prog 20 #[.int .i64 st, .agg #[.int .i64 n, .int .i64 d], .int .i64 t] w fun x w' => x = .returned (.tuple #[.int .i64 k, .int .i64 v, .int .i64 e]) ∧ Below w.heap.size w w') ∧ (∀ w, Calls Try.prog 21 #[.int .i64 st, .agg #[.int .i64 n, .int .i64 d], .int .i64 t] w fun x w' => x = .returned (.tuple #[.int .i64 k, .int .i64 v, .int .i64 e]) ∧ Below w.heap.size w w') := by
  by_cases h : RV n d
  · by_cases hs : (0 ≤ st ∧ st ≤ 9007199254740992) ∧ (0 ≤ t ∧ t ≤ 18014398509481984)
    · obtain ⟨⟨s0, s1⟩, t0, t1⟩ := hs
      by_cases h1 : t < st
      · exact ⟨_, _, _, fun w => nearest_before st n d t h w s0 s1 t0 h1, fun w => refnearest_before st n d t (Lib.hid fun w => refindex_before st n d t h w s0 s1 t0 h1) s0 s1 t0 h1 w⟩
      · have h2 : st ≤ t := by omega
        obtain ⟨a0, a1, a2, a3⟩ := lastF_spec n d (t - st) h.n1 h.d1 (by omega)
        have IX : Hid (∀ w, Calls Try.prog 17 #[.int .i64 st, .agg #[.int .i64 n, .int .i64 d], .int .i64 t] w fun e w' => e = .returned (.tuple #[.int .i64 (lastF n d (t - st)), .int .i64 0]) ∧ Below w.heap.size w w') := Lib.hid fun w => refindex_ok st n d t h w s0 s1 h2 t1
        have TM : Hid (∀ w, Calls Try.prog 15 #[.int .i64 st, .agg #[.int .i64 n, .int .i64 d], .int .i64 (lastF n d (t - st))] w fun e w' => e = .returned (.tuple #[.int .i64 (st + el n d (lastF n d (t - st))), .int .i64 0]) ∧ Below w.heap.size w w') := Lib.hid fun w => reftime_ok st n d _ h w s0 s1 a0 a1
        obtain ⟨e0, e1⟩ := el_bd n d (lastF n d (t - st)) h.n1 h.d1 h.d2 a0 (by omega)
        refine ⟨_, _, _, fun w => nearest_ok st n d t h w s0 s1 h2 t1, fun w => ?_⟩
        by_cases h3 : lastF n d (t - st) < 16777216
        · obtain ⟨f0, f1⟩ := el_bd n d (lastF n d (t - st) + 1) h.n1 h.d1 h.d2 (by omega) (by omega)
          have TN : Hid (∀ w, Calls Try.prog 15 #[.int .i64 st, .agg #[.int .i64 n, .int .i64 d], .int .i64 (lastF n d (t - st) + 1)] w fun e w' => e = .returned (.tuple #[.int .i64 (st + el n d (lastF n d (t - st) + 1)), .int .i64 0]) ∧ Below w.heap.size w w') := Lib.hid fun w => reftime_ok st n d _ h w s0 s1 (by omega) (by omega)
          by_cases h4 : el n d (lastF n d (t - st) + 1) - (t - st) < t - st - el n d (lastF n d (t - st))
          · have hR : nearF n d (t - st) = lastF n d (t - st) + 1 := if_pos ⟨h3, h4⟩
            have := refnearest_up st n d t _ _ _ IX TM TN a0 t0 t1 (by omega) (by omega) (by omega) (by omega) h3 (by omega) w
            rw [hR, Int.sub_sub]
            exact this
          · have hR : nearF n d (t - st) = lastF n d (t - st) := if_neg (by omega)
            have := refnearest_here st n d t _ _ _ IX TM TN a0 t0 t1 (by omega) (by omega) (by omega) (by omega) h3 (by omega) w
            rw [hR, Int.sub_sub]
            exact this
        · have hR : nearF n d (t - st) = lastF n d (t - st) := if_neg (by omega)
          have := refnearest_end st n d t _ _ IX TM a0 t0 t1 (by omega) (by omega) h3 w
          rw [hR, Int.sub_sub]
          exact this
    · have hn : (st < 0 ∨ 9007199254740992 < st) ∨ (t < 0 ∨ 18014398509481984 < t) := by omega
      exact ⟨0, 0, 2, fun w => nearest_no st n d t h hn w, fun w => refnearest_err st n d t 2 (Lib.hid fun w => refindex_no st n d t h hn w) (by decide) w⟩
  · exact ⟨0, 0, 1, fun w => nearest_inv st n d t h w, fun w => refnearest_err st n d t 1 (Lib.hid fun w => refindex_inv st n d t h w) (by decide) w⟩
end Rate
end Go.Proofs.Ytgckppkfpccanaa
