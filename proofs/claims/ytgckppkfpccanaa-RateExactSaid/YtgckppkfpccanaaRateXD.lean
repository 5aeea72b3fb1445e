/- Samples, Number, Slower and New at any input, of the program and of the reference. -/
import Derived.Test.YtgckppkfpccanaaRateXC
import Derived.Test.YtgckppkfpccanaaRateCN
import Derived.Test.YtgckppkfpccanaaRateB
namespace Go.Proofs.Ytgckppkfpccanaa
open Go.RowKit Dice
namespace Rate
set_option linter.unusedVariables false
theorem number_inv (n d t : Int) (h : ¬ RV n d) (w : World) :
    Calls Try.prog 22 #[.agg #[.int .i64 n, .int .i64 d], .int .i64 t] w fun e w' => e = .returned (.tuple #[.int .i64 0, .int .i64 1]) ∧ Below w.heap.size w w' := by
  go_enter Try.func22, Try.ntmps22
  go_wp2_with (first | (go_at_call 11; refine (valid_no n d h _).mono ?_; rintro e w1 ⟨rfl, hb⟩; have hW : Below (w.heap.size + 1) (w.alloc (.cells #[.int .i64 n, .int .i64 d] 24)) w1 := (by simpa using hb); clear hb; obtain ⟨c0, c1⟩ := boxed hW))
  go_ret2
  exact ⟨rfl, boxed_out hW⟩
theorem number_no (n d t : Int) (h : RV n d) (s : t < 0 ∨ 18014398509481984 < t) (w : World) :
    Calls Try.prog 22 #[.agg #[.int .i64 n, .int .i64 d], .int .i64 t] w fun e w' => e = .returned (.tuple #[.int .i64 0, .int .i64 2]) ∧ Below w.heap.size w w' := by
  go_enter Try.func22, Try.ntmps22
  go_wp2_with (first | (go_at_call 11; refine (valid_yes n d h _).mono ?_; rintro e w1 ⟨rfl, hb⟩; have hW : Below (w.heap.size + 1) (w.alloc (.cells #[.int .i64 n, .int .i64 d] 24)) w1 := (by simpa using hb); clear hb; obtain ⟨c0, c1⟩ := boxed hW) | (go_at_call 30; refine (within_yes _ _ _ _ (by omega) (by omega)).mono ?_; rintro e w' ⟨rfl, m, rfl⟩) | (go_at_call 30; refine (within_no _ _ _ _ (by omega)).mono ?_; rintro e w' ⟨rfl, m, rfl⟩))
  go_ret2
  exact ⟨rfl, boxed_out (Buf.below_drewN hW _)⟩
theorem refnumber_inv (n d t : Int) (h : ¬ RV n d) (w : World) :
    Calls Try.prog 23 #[.agg #[.int .i64 n, .int .i64 d], .int .i64 t] w fun e w' => e = .returned (.tuple #[.int .i64 0, .int .i64 1]) ∧ Below w.heap.size w w' := by
  go_enter Try.func23, Try.ntmps23
  go_wp2_with (first | (go_at_call 12; refine (refvalid_no n d h _).mono ?_; rintro e w1 ⟨rfl, hb⟩; have hW : Below (w.heap.size + 1) (w.alloc (.cells #[.int .i64 n, .int .i64 d] 24)) w1 := (by simpa using hb); clear hb; obtain ⟨c0, c1⟩ := boxed hW))
  go_ret2
  exact ⟨rfl, boxed_out hW⟩
theorem refnumber_no (n d t : Int) (h : RV n d) (s : t < 0 ∨ 18014398509481984 < t) (w : World) :
    Calls Try.prog 23 #[.agg #[.int .i64 n, .int .i64 d], .int .i64 t] w fun e w' => e = .returned (.tuple #[.int .i64 0, .int .i64 2]) ∧ Below w.heap.size w w' := by
  go_enter Try.func23, Try.ntmps23
  go_wp2_with (first | (go_at_call 12; refine (refvalid_yes n d h _).mono ?_; rintro e w1 ⟨rfl, hb⟩; have hW : Below (w.heap.size + 1) (w.alloc (.cells #[.int .i64 n, .int .i64 d] 24)) w1 := (by simpa using hb); clear hb; obtain ⟨c0, c1⟩ := boxed hW) | (go_at_call 32; refine (in_yes _ _ _ _ (by omega) (by omega)).mono ?_; rintro e w' ⟨rfl, m, rfl⟩) | (go_at_call 32; refine (in_no _ _ _ _ (by omega)).mono ?_; rintro e w' ⟨rfl, m, rfl⟩))
  go_ret2
  exact ⟨rfl, boxed_out (Buf.below_drewN hW _)⟩
theorem samples_inv (n d t : Int) (h : ¬ RV n d) (w : World) :
    Calls Try.prog 26 #[.agg #[.int .i64 n, .int .i64 d], .int .i64 t] w fun e w' => e = .returned (.tuple #[.int .i64 0, .int .i64 1]) ∧ Below w.heap.size w w' := by
  go_enter Try.func26, Try.ntmps26
  go_wp2_with (first | (go_at_call 11; refine (valid_no n d h _).mono ?_; rintro e w1 ⟨rfl, hb⟩; have hW : Below (w.heap.size + 1) (w.alloc (.cells #[.int .i64 n, .int .i64 d] 24)) w1 := (by simpa using hb); clear hb; obtain ⟨c0, c1⟩ := boxed hW))
  go_ret2
  exact ⟨rfl, boxed_out hW⟩
theorem samples_no (n d t : Int) (h : RV n d) (s : t < 0 ∨ 9007199254740992 < t) (w : World) :
    Calls Try.prog 26 #[.agg #[.int .i64 n, .int .i64 d], .int .i64 t] w fun e w' => e = .returned (.tuple #[.int .i64 0, .int .i64 2]) ∧ Below w.heap.size w w' := by
  go_enter Try.func26, Try.ntmps26
  go_wp2_with (first | (go_at_call 11; refine (valid_yes n d h _).mono ?_; rintro e w1 ⟨rfl, hb⟩; have hW : Below (w.heap.size + 1) (w.alloc (.cells #[.int .i64 n, .int .i64 d] 24)) w1 := (by simpa using hb); clear hb; obtain ⟨c0, c1⟩ := boxed hW) | (go_at_call 30; refine (within_yes _ _ _ _ (by omega) (by omega)).mono ?_; rintro e w' ⟨rfl, m, rfl⟩) | (go_at_call 30; refine (within_no _ _ _ _ (by omega)).mono ?_; rintro e w' ⟨rfl, m, rfl⟩))
  go_ret2
  exact ⟨rfl, boxed_out (Buf.below_drewN hW _)⟩
theorem refsamples_inv (n d t : Int) (h : ¬ RV n d) (w : World) :
    Calls Try.prog 27 #[.agg #[.int .i64 n, .int .i64 d], .int .i64 t] w fun e w' => e = .returned (.tuple #[.int .i64 0, .int .i64 1]) ∧ Below w.heap.size w w' := by
  go_enter Try.func27, Try.ntmps27
  go_wp2_with (first | (go_at_call 12; refine (refvalid_no n d h _).mono ?_; rintro e w1 ⟨rfl, hb⟩; have hW : Below (w.heap.size + 1) (w.alloc (.cells #[.int .i64 n, .int .i64 d] 24)) w1 := (by simpa using hb); clear hb; obtain ⟨c0, c1⟩ := boxed hW))
  go_ret2
  exact ⟨rfl, boxed_out hW⟩
theorem refsamples_no (n d t : Int) (h : RV n d) (s : t < 0 ∨ 9007199254740992 < t) (w : World) :
    Calls Try.prog 27 #[.agg #[.int .i64 n, .int .i64 d], .int .i64 t] w fun e w' => e = .returned (.tuple #[.int .i64 0, .int .i64 2]) ∧ Below w.heap.size w w' := by
  go_enter Try.func27, Try.ntmps27
  go_wp2_with (first | (go_at_call 12; refine (refvalid_yes n d h _).mono ?_; rintro e w1 ⟨rfl, hb⟩; have hW : Below (w.heap.size + 1) (w.alloc (.cells #[.int .i64 n, .int .i64 d] 24)) w1 := (by simpa using hb); clear hb; obtain ⟨c0, c1⟩ := boxed hW) | (go_at_call 32; refine (in_yes _ _ _ _ (by omega) (by omega)).mono ?_; rintro e w' ⟨rfl, m, rfl⟩) | (go_at_call 32; refine (in_no _ _ _ _ (by omega)).mono ?_; rintro e w' ⟨rfl, m, rfl⟩))
  go_ret2
  exact ⟨rfl, boxed_out (Buf.below_drewN hW _)⟩
theorem refnumber_ok (n d t : Int) (h : RV n d) (w : World) (t0 : 0 ≤ t) (t1 : t ≤ 18014398509481984) :
    Calls Try.prog 23 #[.agg #[.int .i64 n, .int .i64 d], .int .i64 t] w fun e w' => e = .returned (.tuple #[.int .i64 (numF n d t), .int .i64 0]) ∧ Below w.heap.size w w' := by
  obtain ⟨n1, n2, d1, d2, _⟩ := id h
  have hc : 0 < d * 1000000 := by omega
  have q0 : 0 ≤ t / (d * 1000000) := Int.ediv_nonneg t0 (by omega)
  have q1 : t / (d * 1000000) ≤ 18014398510 := Int.ediv_le_of_le_mul hc (by omega)
  have r0 : 0 ≤ t % (d * 1000000) := Int.emod_nonneg _ (by omega)
  have r1 : t % (d * 1000000) < d * 1000000 := Int.emod_lt_of_pos _ hc
  have a0 : 0 ≤ t / (d * 1000000) * n := Int.mul_nonneg q0 (by omega)
  have a1 : t / (d * 1000000) * n ≤ 18014398510 * 4096 := Int.mul_le_mul q1 n2 (by omega) (by omega)
  have b0 : 0 ≤ 2 * (t % (d * 1000000)) * n := Int.mul_nonneg (by omega) (by omega)
  have b1 : 2 * (t % (d * 1000000)) * n ≤ 8192000000 * 4096 := Int.mul_le_mul (by omega) n2 (by omega) (by omega)
  have t0 : 0 ≤ (2 * (t % (d * 1000000)) * n + d * 1000000) / (2 * (d * 1000000)) := Int.ediv_nonneg (by omega) (by omega)
  have t1 : (2 * (t % (d * 1000000)) * n + d * 1000000) / (2 * (d * 1000000)) ≤ 33558528000000 := Int.le_trans (Int.ediv_le_self _ (by omega)) (by omega)
  have hq : Hid (numF n d t = t / (d * 1000000) * n + (2 * (t % (d * 1000000)) * n + d * 1000000) / (2 * (d * 1000000))) := Lib.hid rfl
  rw [hq.out]
  clear hq
  go_enter Try.func23, Try.ntmps23
  go_wp2_with (first | (go_at_call 12; refine (refvalid_yes n d h _).mono ?_; rintro e w1 ⟨rfl, hb⟩; have hW : Below (w.heap.size + 1) (w.alloc (.cells #[.int .i64 n, .int .i64 d] 24)) w1 := (by simpa using hb); clear hb; obtain ⟨c0, c1⟩ := boxed hW) | (go_at_call 32; refine (in_yes _ _ _ _ (by omega) (by omega)).mono ?_; rintro e w' ⟨rfl, m, rfl⟩))
  go_quiet (fail)
  go_wp2
  go_quiet (fail)
  go_wp2
  go_ret2
  exact ⟨rfl, boxed_out (by first | exact Buf.below_drewN (Buf.below_drewN (Buf.below_drewN hW _) _) _ | exact Buf.below_drewN (Buf.below_drewN hW _) _ | exact Buf.below_drewN hW _ | exact hW)⟩
theorem number_same (n d t : Int) : ∃ a e : Int, (∀ w, Calls Try.prog 22 #[.agg #[.int .i64 n, .int .i64 d], .int .i64 t] w fun x w' => x = .returned (.tuple #[.int .i64 a, .int .i64 e]) ∧ Below w.heap.size w w') ∧ (∀ w, Calls Try.prog 23 #[.agg #[.int .i64 n, .int .i64 d], .int .i64 t] w fun x w' => x = .returned (.tuple #[.int .i64 a, .int .i64 e]) ∧ Below w.heap.size w w') := by
  by_cases h : RV n d
  · by_cases hs : 0 ≤ t ∧ t ≤ 18014398509481984
    · exact ⟨_, _, fun w => number_ok n d t h w hs.1 hs.2, fun w => refnumber_ok n d t h w hs.1 hs.2⟩
    · exact ⟨0, 2, fun w => number_no n d t h (by omega) w, fun w => refnumber_no n d t h (by omega) w⟩
  · exact ⟨0, 1, fun w => number_inv n d t h w, fun w => refnumber_inv n d t h w⟩
/-- How many samples are ahead of x. -/
def samF (n d x : Int) : Int := x / (d * 1000000) * n + (x % (d * 1000000) * n + d * 1000000 - 1) / (d * 1000000)
theorem samF_eq (n d x : Int) (d1 : 1 ≤ d) : samF n d x = (x * n - 1) / (d * 1000000) + 1 := by
  unfold samF
  have hc : 0 < d * 1000000 := by omega
  generalize d * 1000000 = c at *
  have e : x * n - 1 + c = (x % c * n + c - 1) + c * (x / c * n) := by
    have h1 := Int.mul_ediv_add_emod x c
    have h2 : x * n = (c * (x / c) + x % c) * n := by rw [h1]
    rw [Int.add_mul, Int.mul_assoc c] at h2
    omega
  have e2 : (x * n - 1) / c + 1 = (x * n - 1 + c) / c := by
    have := Int.add_mul_ediv_left (x * n - 1) 1 (show c ≠ 0 by omega)
    rw [Int.mul_one] at this
    exact this.symm
  rw [e2, e, Int.add_mul_ediv_left _ _ (by omega), Int.add_comm]
theorem samF_last (n d x : Int) (h : RV n d) (x0 : 1 ≤ x) : (samF n d x ≤ 16777216 ∧ samF n d x = lastF n d (x - 1) + 1 ∧ lastF n d (x - 1) < 16777216) ∨ (16777216 < samF n d x ∧ lastF n d (x - 1) = 16777216) := by
  rw [samF_eq n d x h.d1]
  unfold lastF
  rw [Int.sub_add_cancel]
  omega
theorem samF_zero (n d : Int) (h : RV n d) : samF n d 0 = 0 := by
  rw [samF_eq n d 0 h.d1, Int.zero_mul]
  have d1 := h.d1
  have : (0 - 1 : Int) / (d * 1000000) = -1 := Int.ediv_eq_neg_one_of_neg_of_le (by omega) (by omega)
  omega
theorem samples_any (n d t : Int) (h : RV n d) (t0 : 0 ≤ t) (t1 : t ≤ 9007199254740992) (w : World) (z1 z2 : Int) (hz : (samF n d t ≤ 16777216 ∧ z1 = samF n d t ∧ z2 = 0) ∨ (16777216 < samF n d t ∧ z1 = 0 ∧ z2 = 8)) :
    Calls Try.prog 26 #[.agg #[.int .i64 n, .int .i64 d], .int .i64 t] w fun e w' => e = .returned (.tuple #[.int .i64 z1, .int .i64 z2]) ∧ Below w.heap.size w w' := by
  obtain ⟨n1, n2, d1, d2, _⟩ := id h
  have hc : 0 < d * 1000000 := by omega
  have q0 : 0 ≤ t / (d * 1000000) := Int.ediv_nonneg t0 (by omega)
  have q1 : t / (d * 1000000) ≤ 9007199255 := Int.ediv_le_of_le_mul hc (by omega)
  have r0 : 0 ≤ t % (d * 1000000) := Int.emod_nonneg _ (by omega)
  have r1 : t % (d * 1000000) < d * 1000000 := Int.emod_lt_of_pos _ hc
  have a0 : 0 ≤ t / (d * 1000000) * n := Int.mul_nonneg q0 (by omega)
  have a1 : t / (d * 1000000) * n ≤ 9007199255 * 4096 := Int.mul_le_mul q1 n2 (by omega) (by omega)
  have b0 : 0 ≤ t % (d * 1000000) * n := Int.mul_nonneg (by omega) (by omega)
  have b1 : t % (d * 1000000) * n ≤ 4096000000 * 4096 := Int.mul_le_mul (by omega) n2 (by omega) (by omega)
  have x0 : 0 ≤ (t % (d * 1000000) * n + d * 1000000 - 1) / (d * 1000000) := Int.ediv_nonneg (by omega) (by omega)
  have x1 : (t % (d * 1000000) * n + d * 1000000 - 1) / (d * 1000000) ≤ 33558528000000 := Int.le_trans (Int.ediv_le_self _ (by omega)) (by omega)
  have hq : Hid (samF n d t = t / (d * 1000000) * n + (t % (d * 1000000) * n + d * 1000000 - 1) / (d * 1000000)) := Lib.hid rfl
  rw [hq.out] at hz
  clear hq
  rcases hz with ⟨hl, rfl, rfl⟩ | ⟨hl, rfl, rfl⟩
  · go_enter Try.func26, Try.ntmps26
    go_wp2_with (first | (go_at_call 11; refine (valid_yes n d h _).mono ?_; rintro e w1 ⟨rfl, hb⟩; have hW : Below (w.heap.size + 1) (w.alloc (.cells #[.int .i64 n, .int .i64 d] 24)) w1 := (by simpa using hb); clear hb; obtain ⟨c0, c1⟩ := boxed hW) | (go_at_call 30; refine (within_yes _ _ _ _ (by omega) (by omega)).mono ?_; rintro e w' ⟨rfl, m, rfl⟩) | (go_at_call 38; refine (cycle_any n d _ d1 d2).mono ?_; rintro e w2 ⟨rfl, hb⟩; replace hW := boxed_next hW (Buf.of_drewN hb); clear hb; obtain ⟨c2, c3⟩ := boxed hW))
    go_quiet (fail)
    go_wp2
    go_ret2
    exact ⟨rfl, boxed_out (by first | exact Buf.below_drewN hW _ | exact hW)⟩
  · go_enter Try.func26, Try.ntmps26
    go_wp2_with (first | (go_at_call 11; refine (valid_yes n d h _).mono ?_; rintro e w1 ⟨rfl, hb⟩; have hW : Below (w.heap.size + 1) (w.alloc (.cells #[.int .i64 n, .int .i64 d] 24)) w1 := (by simpa using hb); clear hb; obtain ⟨c0, c1⟩ := boxed hW) | (go_at_call 30; refine (within_yes _ _ _ _ (by omega) (by omega)).mono ?_; rintro e w' ⟨rfl, m, rfl⟩) | (go_at_call 38; refine (cycle_any n d _ d1 d2).mono ?_; rintro e w2 ⟨rfl, hb⟩; replace hW := boxed_next hW (Buf.of_drewN hb); clear hb; obtain ⟨c2, c3⟩ := boxed hW))
    go_quiet (fail)
    go_wp2
    go_ret2
    exact ⟨rfl, boxed_out (by first | exact Buf.below_drewN hW _ | exact hW)⟩
theorem refsamples_lim (n d t k : Int) (h : RV n d) (t0 : 0 ≤ t) (t1 : t ≤ 9007199254740992) (NX : Hid (∀ w, Calls Try.prog 19 #[.int .i64 0, .agg #[.int .i64 n, .int .i64 d], .int .i64 t] w fun e w' => e = .returned (.tuple #[.int .i64 k, .int .i64 6]) ∧ Below w.heap.size w w')) (w : World) :
    Calls Try.prog 27 #[.agg #[.int .i64 n, .int .i64 d], .int .i64 t] w fun e w' => e = .returned (.tuple #[.int .i64 0, .int .i64 8]) ∧ Below w.heap.size w w' := by
  go_enter Try.func27, Try.ntmps27
  go_wp2_with (first | (go_at_call 12; refine (refvalid_yes n d h _).mono ?_; rintro e w1 ⟨rfl, hb⟩; have hW : Below (w.heap.size + 1) (w.alloc (.cells #[.int .i64 n, .int .i64 d] 24)) w1 := (by simpa using hb); clear hb; obtain ⟨c0, c1⟩ := boxed hW) | (go_at_call 32; refine (in_yes _ _ _ _ (by omega) (by omega)).mono ?_; rintro e w' ⟨rfl, m, rfl⟩) | (go_at_call 19; with_reducible refine (NX.out _).mono ?_; rintro e w2 ⟨rfl, hb2⟩; replace hW := boxed_next hW (Buf.of_drewN hb2); obtain ⟨c2, c3⟩ := boxed hW))
  go_ret2
  exact ⟨rfl, boxed_out hW⟩
theorem refsamples_ok (n d t k : Int) (h : RV n d) (t0 : 0 ≤ t) (t1 : t ≤ 9007199254740992) (k0 : 0 ≤ k) (k1 : k ≤ 16777216) (NX : Hid (∀ w, Calls Try.prog 19 #[.int .i64 0, .agg #[.int .i64 n, .int .i64 d], .int .i64 t] w fun e w' => e = .returned (.tuple #[.int .i64 k, .int .i64 0]) ∧ Below w.heap.size w w')) (w : World) :
    Calls Try.prog 27 #[.agg #[.int .i64 n, .int .i64 d], .int .i64 t] w fun e w' => e = .returned (.tuple #[.int .i64 k, .int .i64 0]) ∧ Below w.heap.size w w' := by
  go_enter Try.func27, Try.ntmps27
  go_wp2_with (first | (go_at_call 12; refine (refvalid_yes n d h _).mono ?_; rintro e w1 ⟨rfl, hb⟩; have hW : Below (w.heap.size + 1) (w.alloc (.cells #[.int .i64 n, .int .i64 d] 24)) w1 := (by simpa using hb); clear hb; obtain ⟨c0, c1⟩ := boxed hW) | (go_at_call 32; refine (in_yes _ _ _ _ (by omega) (by omega)).mono ?_; rintro e w' ⟨rfl, m, rfl⟩) | (go_at_call 19; with_reducible refine (NX.out _).mono ?_; rintro e w2 ⟨rfl, hb2⟩; replace hW := boxed_next hW (Buf.of_drewN hb2); obtain ⟨c2, c3⟩ := boxed hW))
  go_ret2
  exact ⟨rfl, boxed_out hW⟩
theorem refnext_from (n d t : Int) (h : RV n d) (t0 : 1 ≤ t) (t1 : t ≤ 9007199254740992) : (lastF n d (t - 1) < 16777216 ∧ ∀ w, Calls Try.prog 19 #[.int .i64 0, .agg #[.int .i64 n, .int .i64 d], .int .i64 t] w fun e w' => e = .returned (.tuple #[.int .i64 (lastF n d (t - 1) + 1), .int .i64 0]) ∧ Below w.heap.size w w') ∨ (lastF n d (t - 1) = 16777216 ∧ ∀ w, Calls Try.prog 19 #[.int .i64 0, .agg #[.int .i64 n, .int .i64 d], .int .i64 t] w fun e w' => e = .returned (.tuple #[.int .i64 0, .int .i64 6]) ∧ Below w.heap.size w w') := by
  obtain ⟨a0, a1, a2, a3⟩ := lastF_spec n d t h.n1 h.d1 (by omega)
  have IX : Hid (∀ w, Calls Try.prog 17 #[.int .i64 0, .agg #[.int .i64 n, .int .i64 d], .int .i64 t] w fun e w' => e = .returned (.tuple #[.int .i64 (lastF n d t), .int .i64 0]) ∧ Below w.heap.size w w') := Lib.hid fun w => by
    have := refindex_ok 0 n d t h w (by omega) (by omega) (by omega) (by omega)
    rwa [Int.sub_zero] at this
  have TM : Hid (∀ w, Calls Try.prog 15 #[.int .i64 0, .agg #[.int .i64 n, .int .i64 d], .int .i64 (lastF n d t)] w fun e w' => e = .returned (.tuple #[.int .i64 (el n d (lastF n d t)), .int .i64 0]) ∧ Below w.heap.size w w') := Lib.hid fun w => by
    have := reftime_ok 0 n d (lastF n d t) h w (by omega) (by omega) a0 a1
    rwa [Int.zero_add] at this
  by_cases h4 : el n d (lastF n d t) = t
  · obtain ⟨b0, b1⟩ := last_at n d t h t0 h4
    refine .inl ⟨b1, fun w => ?_⟩
    rw [b0]
    exact refnext_at 0 n d t _ _ IX TM a0 a1 (by rw [beq_iff_eq]; omega) w
  · have b0 := last_past n d t h t0 h4
    rw [b0]
    by_cases h5 : lastF n d t = 16777216
    · exact .inr ⟨h5, fun w => refnext_lim 0 n d t _ _ IX TM a0 (by rw [beq_iff_eq]; exact h5) (by rw [beq_eq_false_iff_ne]; omega) w⟩
    · exact .inl ⟨by omega, fun w => refnext_up 0 n d t _ _ IX TM a0 (by omega) (by rw [beq_eq_false_iff_ne]; exact h5) (by rw [beq_eq_false_iff_ne]; omega) w⟩
theorem samples_same (n d t : Int) : ∃ a e : Int, (∀ w, Calls Try.prog 26 #[.agg #[.int .i64 n, .int .i64 d], .int .i64 t] w fun x w' => x = .returned (.tuple #[.int .i64 a, .int .i64 e]) ∧ Below w.heap.size w w') ∧ (∀ w, Calls Try.prog 27 #[.agg #[.int .i64 n, .int .i64 d], .int .i64 t] w fun x w' => x = .returned (.tuple #[.int .i64 a, .int .i64 e]) ∧ Below w.heap.size w w') := by
  by_cases h : RV n d
  · by_cases hs : 0 ≤ t ∧ t ≤ 9007199254740992
    · obtain ⟨t0, t1⟩ := hs
      by_cases hz : t = 0
      · subst hz
        have hw := samF_zero n d h
        refine ⟨0, 0, fun w => samples_any n d 0 h (by omega) (by omega) w 0 0 (by omega), fun w => refsamples_ok n d 0 0 h (by omega) (by omega) (by omega) (by omega) (Lib.hid fun w => refnext_at 0 n d 0 0 0 (Lib.hid fun w => ?_) (Lib.hid fun w => ?_) (by omega) (by omega) (by decide) w) w⟩
        · have := refindex_ok 0 n d 0 h w (by omega) (by omega) (by omega) (by omega)
          rwa [Int.sub_zero, last_zero n d h] at this
        · have := reftime_ok 0 n d 0 h w (by omega) (by omega) (by omega) (by omega)
          rwa [Laws.el_zero] at this
      · have L0 := (lastF_spec n d (t - 1) h.n1 h.d1 (by omega)).1
        rcases samF_last n d t h (by omega) with ⟨s1, s2, s3⟩ | ⟨s1, s2⟩ <;> rcases refnext_from n d t h (by omega) t1 with ⟨x1, NX⟩ | ⟨x1, NX⟩
        · exact ⟨samF n d t, 0, fun w => samples_any n d t h t0 t1 w _ _ (.inl ⟨s1, rfl, rfl⟩), fun w => by rw [s2]; exact refsamples_ok n d t _ h t0 t1 (by omega) (by omega) (Lib.hid NX) w⟩
        · omega
        · omega
        · exact ⟨0, 8, fun w => samples_any n d t h t0 t1 w _ _ (.inr ⟨s1, rfl, rfl⟩), fun w => refsamples_lim n d t _ h t0 t1 (Lib.hid NX) w⟩
    · exact ⟨0, 2, fun w => samples_no n d t h (by omega) w, fun w => refsamples_no n d t h (by omega) w⟩
  · exact ⟨0, 1, fun w => samples_inv n d t h w, fun w => refsamples_inv n d t h w⟩
end Rate
end Go.Proofs.Ytgckppkfpccanaa
