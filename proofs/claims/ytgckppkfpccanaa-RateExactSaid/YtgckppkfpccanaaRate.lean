/- Contracts of package rate's functions and of the dice's rates. -/
import Derived.Test.YtgckppkfpccanaaRateN
import Derived.Test.YtgckppkfpccanaaDice
import Derived.OwnWalk
namespace Go.Proofs.Ytgckppkfpccanaa
open Go.RowKit Dice
namespace Rate
theorem check_ok (st n d t : Int) (h : RV n d) (w : World) (s0 : 0 ≤ st) (s1 : st ≤ 9007199254740992) (t0 : 0 ≤ t) (t1 : t ≤ 18014398509481984) :
    Calls Try.prog 35 #[.int .i64 st, .agg #[.int .i64 n, .int .i64 d], .int .i64 t] w fun e w' => e = .returned (.int .i64 0) ∧ Below w.heap.size w w' := by
  go_enter Try.func35, Try.ntmps35
  go_wp2_with (first | (go_at_call 11; refine (valid_yes n d h _).mono ?_; rintro e w1 ⟨rfl, hb⟩; obtain ⟨c0, c1⟩ := boxed (by simpa using hb)) | (go_at_call 30; refine (within_yes _ _ _ _ (by omega) (by omega)).mono ?_; rintro e w' ⟨rfl, m, rfl⟩))
  go_ret
  exact ⟨rfl, Buf.below_drewN (((Below.refl _ _).alloc (Nat.le_refl _) _).trans (hb.mono (by simp))) _⟩
theorem start_le (n d x : Int) (n1 : 1 ≤ n) (d1 : 1 ≤ d) (_x0 : 0 ≤ x) : el n d (x / (d * 1000000) * n + x % (d * 1000000) * n / (d * 1000000)) ≤ x := by
  rw [el_le_iff _ _ _ _ n1]
  have hc : 0 < d * 1000000 := by omega
  generalize d * 1000000 = c at *
  have e : x / c * n + x % c * n / c = x * n / c := by
    have h1 : x * n = x % c * n + (x / c * n) * c := by
      have := Int.mul_ediv_add_emod x c
      calc x * n = (c * (x / c) + x % c) * n := by rw [this]
        _ = x % c * n + (x / c * n) * c := by rw [Int.add_mul, Int.mul_comm c, Int.mul_assoc, Int.mul_comm c n, ← Int.mul_assoc, Int.add_comm]
    rw [h1, Int.add_mul_ediv_right _ _ (by omega), Int.add_comm]
  rw [e]
  have := Int.ediv_mul_le (x * n) (show c ≠ 0 by omega)
  have h2 : (x + 1) * n = x * n + n := by rw [Int.add_mul, Int.one_mul]
  omega
theorem el_mono (n d a b : Int) (n1 : 1 ≤ n) (d1 : 1 ≤ d) (h : a ≤ b) : el n d a ≤ el n d b :=
  Int.ediv_le_ediv (by omega) (Int.mul_le_mul_of_nonneg_right h (by omega))
set_option maxHeartbeats 8000000 in
set_option maxRecDepth 100000 in
theorem last_any (n d x : Int) (h : RV n d) (w : World) (x0 : 0 ≤ x) (x1 : x ≤ 18014398509481984) :
    Calls Try.prog 36 #[.agg #[.int .i64 n, .int .i64 d], .int .i64 x] w fun e w' => e = .returned (.int .i64 (lastF n d x)) ∧ Below w.heap.size w w' := by
  obtain ⟨n1, n2, d1, d2, _⟩ := h
  have hc : 0 < d * 1000000 := by omega
  have q0 : 0 ≤ x / (d * 1000000) := Int.ediv_nonneg x0 (by omega)
  have q1 : x / (d * 1000000) ≤ 18014398510 := Int.ediv_le_of_le_mul hc (by omega)
  have r0 : 0 ≤ x % (d * 1000000) := Int.emod_nonneg _ (by omega)
  have r1 : x % (d * 1000000) < d * 1000000 := Int.emod_lt_of_pos _ hc
  have a0 : 0 ≤ x / (d * 1000000) * n := Int.mul_nonneg q0 (by omega)
  have a1 : x / (d * 1000000) * n ≤ 18014398510 * 4096 := Int.mul_le_mul q1 n2 (by omega) (by omega)
  have b0 : 0 ≤ x % (d * 1000000) * n := Int.mul_nonneg r0 (by omega)
  have b1 : x % (d * 1000000) * n ≤ 4096000000 * 4096 := Int.mul_le_mul (by omega) n2 (by omega) (by omega)
  have t0 : 0 ≤ x % (d * 1000000) * n / (d * 1000000) := Int.ediv_nonneg b0 (by omega)
  have t1 : x % (d * 1000000) * n / (d * 1000000) ≤ 16777216000000 := Int.le_trans (Int.ediv_le_self _ b0) (by omega)
  have hst := Lib.hid (start_le n d x n1 d1 x0)
  have HL := Lib.hid (fun k => lastF_of n d x k n1 d1)
  go_enter Try.func36, Try.ntmps36
  go_wp2_with (go_at_call 38; refine (cycle_any n d _ d1 d2).mono ?_; rintro e w1 ⟨rfl, hb⟩; obtain ⟨c0, c1⟩ := boxed (by simpa using hb))
  go_quiet (fail)
  go_wp2_with fail
  all_goals
    go_loopw [6] (fun u wr => ∃ k : Int, u = .int .i64 k ∧ 0 ≤ k ∧ k ≤ 16777216 ∧ Hid (el n d k ≤ x) ∧ Below (w.heap.size + 1) (w.alloc (.cells #[.int .i64 n, .int .i64 d] 24)) wr) (fun u _ => (16777216 - intOf u).toNat)
    case atStart =>
      first
      | exact ⟨_, rfl, by omega, by omega, hst, Buf.below_drewN (by simpa using hb) _⟩
      | exact ⟨16777216, rfl, by omega, by omega, Lib.hid (Int.le_trans (el_mono n d 16777216 _ n1 d1 (by omega)) hst.out), Buf.below_drewN (by simpa using hb) _⟩
    case round =>
      obtain ⟨k, rfl, k0, k1, hk, hb2⟩ := hrel
      obtain ⟨c0, c1⟩ := boxed hb2
      by_cases hkm : k < 16777216
      · by_cases hle : el n d (k + 1) ≤ x
        · go_wp2_with (go_at_call 34; refine (elapsed_any n d (k + 1) _ n1 d1 d2 (by omega) (by omega)).mono ?_; rintro e w2 ⟨rfl, hb3⟩)
          go_roundw
          case rel => exact ⟨k + 1, rfl, by omega, by omega, Lib.hid hle, hb2.trans (hb3.mono (by have := hb2.size; simp at this ⊢; omega))⟩
          case measure => simp [intOf]; omega
        · have hkl := Lib.hid (HL.out k k1 hk.out (.inr (by omega)))
          go_wp2_with (go_at_call 34; refine (elapsed_any n d (k + 1) _ n1 d1 d2 (by omega) (by omega)).mono ?_; rintro e w2 ⟨rfl, hb3⟩)
          go_ret
          exact ⟨ret1 hkl.out, ((Below.refl _ _).alloc (Nat.le_refl _) _).trans ((hb2.trans (hb3.mono (by have := hb2.size; simp at this ⊢; omega))).mono (by simp))⟩
      · obtain rfl : k = 16777216 := by omega
        have hkl := Lib.hid (HL.out _ k1 hk.out (.inl rfl))
        go_wp2
        go_ret
        exact ⟨ret1 hkl.out, ((Below.refl _ _).alloc (Nat.le_refl _) _).trans (hb2.mono (by simp))⟩
theorem lastF_spec (n d x : Int) (n1 : 1 ≤ n) (d1 : 1 ≤ d) (x0 : 0 ≤ x) : 0 ≤ lastF n d x ∧ lastF n d x ≤ 16777216 ∧ el n d (lastF n d x) ≤ x ∧ (lastF n d x = 16777216 ∨ x < el n d (lastF n d x + 1)) := by
  have hc : 0 < d * 1000000 := by omega
  have p0 : 0 ≤ (x + 1) * n - 1 := by
    have := Int.mul_le_mul (show 1 ≤ x + 1 by omega) n1 (by omega) (by omega)
    omega
  have q0 : 0 ≤ ((x + 1) * n - 1) / (d * 1000000) := Int.ediv_nonneg p0 (by omega)
  have l0 : lastF n d x ≤ ((x + 1) * n - 1) / (d * 1000000) := by unfold lastF; omega
  refine ⟨by unfold lastF; omega, by unfold lastF; omega, ?_, ?_⟩
  · rw [el_le_iff _ _ _ _ n1]
    have := (Int.le_ediv_iff_mul_le hc).1 l0
    omega
  · by_cases h : ((x + 1) * n - 1) / (d * 1000000) < 16777216
    · right
      have e : lastF n d x = ((x + 1) * n - 1) / (d * 1000000) := by unfold lastF; omega
      have h3 : ¬ el n d (lastF n d x + 1) ≤ x := by
        rw [el_le_iff _ _ _ _ n1, e]
        have := (Int.ediv_lt_iff_lt_mul hc).1 (Int.lt_add_one_of_le (Int.le_refl (((x + 1) * n - 1) / (d * 1000000))))
        omega
      omega
    · left; unfold lastF; omega
theorem index_ok (st n d t : Int) (h : RV n d) (w : World) (s0 : 0 ≤ st) (s1 : st ≤ 9007199254740992) (t0 : st ≤ t) (t1 : t ≤ 18014398509481984) :
    Calls Try.prog 16 #[.int .i64 st, .agg #[.int .i64 n, .int .i64 d], .int .i64 t] w fun e w' => e = .returned (.tuple #[.int .i64 (lastF n d (t - st)), .int .i64 0]) ∧ Below w.heap.size w w' := by
  have hdec : decide (t < st) = false := by simp; omega
  go_enter Try.func16, Try.ntmps16
  go_wp2_with (first | (go_at_call 35; refine (check_ok st n d t h _ s0 s1 (by omega) t1).mono ?_; rintro e w1 ⟨rfl, hb⟩; obtain ⟨c0, c1⟩ := boxed (by simpa using hb)) | (go_at_call 36; refine (last_any n d _ h _ (by omega) (by omega)).mono ?_; rintro e w2 ⟨rfl, hb2⟩))
  go_ret2
  exact ⟨rfl, Buf.then_ (((Below.refl _ _).alloc (Nat.le_refl _) _).trans (hb.mono (by simp))) hb2⟩
theorem next_start (st n d t : Int) (h : RV n d) (w : World) (s0 : 0 ≤ st) (s1 : st ≤ 9007199254740992) (t0 : 0 ≤ t) (t1 : t ≤ st) :
    Calls Try.prog 18 #[.int .i64 st, .agg #[.int .i64 n, .int .i64 d], .int .i64 t] w fun e w' => e = .returned (.tuple #[.int .i64 0, .int .i64 0]) ∧ Below w.heap.size w w' := by
  have hdec : decide (t ≤ st) = true := by simp; omega
  go_enter Try.func18, Try.ntmps18
  go_wp2_with (first | (go_at_call 35; refine (check_ok st n d t h _ s0 s1 (by omega) (by omega)).mono ?_; rintro e w1 ⟨rfl, hb⟩; obtain ⟨c0, c1⟩ := boxed (by simpa using hb)))
  go_ret2
  exact ⟨rfl, ((Below.refl _ _).alloc (Nat.le_refl _) _).trans (hb.mono (by simp))⟩
theorem next_ok (st n d t : Int) (h : RV n d) (w : World) (s0 : 0 ≤ st) (s1 : st ≤ 9007199254740992) (t0 : st < t) (t1 : t ≤ 18014398509481984) (hl : lastF n d (t - st - 1) < 16777216) :
    Calls Try.prog 18 #[.int .i64 st, .agg #[.int .i64 n, .int .i64 d], .int .i64 t] w fun e w' => e = .returned (.tuple #[.int .i64 (lastF n d (t - st - 1) + 1), .int .i64 0]) ∧ Below w.heap.size w w' := by
  have hdec : decide (t ≤ st) = false := by simp; omega
  have hl0 := (lastF_spec n d (t - st - 1) h.n1 h.d1 (by omega)).1
  obtain ⟨L, hL⟩ : ∃ L, lastF n d (t - st - 1) = L := ⟨_, rfl⟩
  have G : Hid (∀ w, Calls Try.prog 36 #[.agg #[.int .i64 n, .int .i64 d], .int .i64 (t - st - 1)] w fun e w' => e = .returned (.int .i64 L) ∧ Below w.heap.size w w') := by
    intro w; rw [← hL]; exact last_any n d _ h w (by omega) (by omega)
  rw [hL] at hl hl0 ⊢
  clear hL
  have hd2 : decide (16777216 < L + 1) = false := by simp; omega
  go_enter Try.func18, Try.ntmps18
  go_wp2_with (first | (go_at_call 35; refine (check_ok st n d t h _ s0 s1 (by omega) t1).mono ?_; rintro e w1 ⟨rfl, hb⟩; obtain ⟨c0, c1⟩ := boxed (by simpa using hb)) | (go_at_call 36; with_reducible refine (G.out _).mono ?_; rintro e w2 ⟨rfl, hb2⟩))
  go_ret2
  exact ⟨rfl, Buf.then_ (((Below.refl _ _).alloc (Nat.le_refl _) _).trans (hb.mono (by simp))) hb2⟩
theorem time_bad (st n d k : Int) (h : RV n d) (w : World) (s0 : 0 ≤ st) (s1 : st ≤ 9007199254740992) (k1 : 16777216 < k) :
    Calls Try.prog 14 #[.int .i64 st, .agg #[.int .i64 n, .int .i64 d], .int .i64 k] w fun e w' => e = .returned (.tuple #[.int .i64 0, .int .i64 2]) ∧ Below w.heap.size w w' := by
  go_enter Try.func14, Try.ntmps14
  go_wp2_with (first | (go_at_call 11; refine (valid_yes n d h _).mono ?_; rintro e w1 ⟨rfl, hb⟩; obtain ⟨c0, c1⟩ := boxed (by simpa using hb)) | (go_at_call 30; refine (within_yes _ _ _ _ (by omega) (by omega)).mono ?_; rintro e w' ⟨rfl, m, rfl⟩) | (go_at_call 30; refine (within_no _ _ _ _ (by omega)).mono ?_; rintro e w' ⟨rfl, m, rfl⟩))
  go_ret2
  exact ⟨rfl, Buf.below_drewN (((Below.refl _ _).alloc (Nat.le_refl _) _).trans (hb.mono (by simp))) _⟩
/-- The index of the nearest sample, x behind the start. -/
def nearF (n d x : Int) : Int := if lastF n d x < 16777216 ∧ el n d (lastF n d x + 1) - x < x - el n d (lastF n d x) then lastF n d x + 1 else lastF n d x
theorem nearest_ok (st n d t : Int) (h : RV n d) (w : World) (s0 : 0 ≤ st) (s1 : st ≤ 9007199254740992) (t0 : st ≤ t) (t1 : t ≤ 18014398509481984) :
    Calls Try.prog 20 #[.int .i64 st, .agg #[.int .i64 n, .int .i64 d], .int .i64 t] w fun e w' => e = .returned (.tuple #[.int .i64 (nearF n d (t - st)), .int .i64 (t - st - el n d (nearF n d (t - st))), .int .i64 0]) ∧ Below w.heap.size w w' := by
  have hdec : decide (t < st) = false := by simp; omega
  obtain ⟨L0, L1, L2, L3⟩ := lastF_spec n d (t - st) h.n1 h.d1 (by omega)
  obtain ⟨L, hL⟩ : ∃ L, lastF n d (t - st) = L := ⟨_, rfl⟩
  have G : Hid (∀ w, Calls Try.prog 36 #[.agg #[.int .i64 n, .int .i64 d], .int .i64 (t - st)] w fun e w' => e = .returned (.int .i64 L) ∧ Below w.heap.size w w') := by
    intro w; rw [← hL]; exact last_any n d _ h w (by omega) (by omega)
  unfold nearF
  rw [hL] at L0 L1 L2 L3 ⊢
  clear hL
  obtain ⟨e0, e1⟩ := el_bd n d L h.n1 h.d1 h.d2 L0 (by omega)
  obtain ⟨E, hE⟩ : ∃ E, el n d L = E := ⟨_, rfl⟩
  have GE : Hid (∀ w, Calls Try.prog 34 #[.agg #[.int .i64 n, .int .i64 d], .int .i64 L] w fun e w' => e = .returned (.int .i64 E) ∧ Below w.heap.size w w') := by
    intro w; rw [← hE]; exact elapsed_any n d L w h.n1 h.d1 h.d2 (by omega) (by omega)
  by_cases hm : L < 16777216
  · obtain ⟨f0, f1⟩ := el_bd n d (L + 1) h.n1 h.d1 h.d2 (by omega) (by omega)
    obtain ⟨F, hF⟩ : ∃ F, el n d (L + 1) = F := ⟨_, rfl⟩
    have GF : Hid (∀ w, Calls Try.prog 34 #[.agg #[.int .i64 n, .int .i64 d], .int .i64 (L + 1)] w fun e w' => e = .returned (.int .i64 F) ∧ Below w.heap.size w w') := by
      intro w; rw [← hF]; exact elapsed_any n d (L + 1) w h.n1 h.d1 h.d2 (by omega) (by omega)
    have hE' := Lib.hid hE
    have hF' := Lib.hid hF
    rw [hE] at L2 e0 e1
    rw [hF] at L3 f0 f1
    by_cases hc : F - (t - st) < t - st - E
    · have hR := Lib.hid (show (if L < 16777216 ∧ el n d (L + 1) - (t - st) < t - st - el n d L then L + 1 else L) = L + 1 by rw [hE, hF, if_pos ⟨hm, hc⟩])
      rw [hR.out, hF]
      clear hE hF
      go_enter Try.func20, Try.ntmps20
      go_wp2_with (first | (go_at_call 35; refine (check_ok st n d t h _ s0 s1 (by omega) t1).mono ?_; rintro e w1 ⟨rfl, hb⟩; have hW : Below (w.heap.size + 1) (w.alloc (.cells #[.int .i64 n, .int .i64 d] 24)) w1 := (by simpa using hb); clear hb; obtain ⟨c0, c1⟩ := boxed hW) | (go_at_call 36; with_reducible refine (G.out _).mono ?_; rintro e w2 ⟨rfl, hb2⟩; replace hW := boxed_next hW hb2; obtain ⟨c2, c3⟩ := boxed hW) | (go_at_call 34; (first | with_reducible refine (GE.out _).mono ?_ | with_reducible refine (GF.out _).mono ?_); rintro e w3 ⟨rfl, hb3⟩; (first | replace hW := boxed_next hW hb3 | replace hW := boxed_next hW (Buf.of_drewN hb3)); obtain ⟨c4, c5⟩ := boxed hW))
      go_ret3
      exact ⟨rfl, boxed_out hW⟩
    · have hR := Lib.hid (show (if L < 16777216 ∧ el n d (L + 1) - (t - st) < t - st - el n d L then L + 1 else L) = L by rw [hE, hF, if_neg (by omega)])
      rw [hR.out, hE]
      clear hE hF
      go_enter Try.func20, Try.ntmps20
      go_wp2_with (first | (go_at_call 35; refine (check_ok st n d t h _ s0 s1 (by omega) t1).mono ?_; rintro e w1 ⟨rfl, hb⟩; have hW : Below (w.heap.size + 1) (w.alloc (.cells #[.int .i64 n, .int .i64 d] 24)) w1 := (by simpa using hb); clear hb; obtain ⟨c0, c1⟩ := boxed hW) | (go_at_call 36; with_reducible refine (G.out _).mono ?_; rintro e w2 ⟨rfl, hb2⟩; replace hW := boxed_next hW hb2; obtain ⟨c2, c3⟩ := boxed hW) | (go_at_call 34; (first | with_reducible refine (GE.out _).mono ?_ | with_reducible refine (GF.out _).mono ?_); rintro e w3 ⟨rfl, hb3⟩; (first | replace hW := boxed_next hW hb3 | replace hW := boxed_next hW (Buf.of_drewN hb3)); obtain ⟨c4, c5⟩ := boxed hW))
      go_ret3
      exact ⟨rfl, boxed_out hW⟩
  · obtain rfl : L = 16777216 := by omega
    have hE' := Lib.hid hE
    have GF : Hid True := Lib.hid trivial
    rw [hE] at L2 e0 e1
    rw [if_neg (by omega), hE]
    clear hE
    go_enter Try.func20, Try.ntmps20
    go_wp2_with (first | (go_at_call 35; refine (check_ok st n d t h _ s0 s1 (by omega) t1).mono ?_; rintro e w1 ⟨rfl, hb⟩; have hW : Below (w.heap.size + 1) (w.alloc (.cells #[.int .i64 n, .int .i64 d] 24)) w1 := (by simpa using hb); clear hb; obtain ⟨c0, c1⟩ := boxed hW) | (go_at_call 36; with_reducible refine (G.out _).mono ?_; rintro e w2 ⟨rfl, hb2⟩; replace hW := boxed_next hW hb2; obtain ⟨c2, c3⟩ := boxed hW) | (go_at_call 34; (first | with_reducible refine (GE.out _).mono ?_ | with_reducible refine (GF.out _).mono ?_); rintro e w3 ⟨rfl, hb3⟩; (first | replace hW := boxed_next hW hb3 | replace hW := boxed_next hW (Buf.of_drewN hb3)); obtain ⟨c4, c5⟩ := boxed hW))
    go_ret3
    exact ⟨rfl, boxed_out hW⟩
end Rate
end Go.Proofs.Ytgckppkfpccanaa
