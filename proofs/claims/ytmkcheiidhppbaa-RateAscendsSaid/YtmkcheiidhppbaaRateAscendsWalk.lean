/- The walk of RateAscends. -/
import Derived.Test.YtmkcheiidhppbaaRateB
namespace Go.Proofs.Ytmkcheiidhppbaa
open Go.RowKit Dice Rate
namespace Laws
theorem el_step (n d k : Int) (h : RV n d) : 1 ≤ d * 1000000 / n ∧ (el n d (k + 1) = el n d k + d * 1000000 / n ∨ el n d (k + 1) = el n d k + d * 1000000 / n + 1) := by
  obtain ⟨n1, n2, d1, d2, _⟩ := h
  have hn : n ≠ 0 := by omega
  constructor
  · exact (Int.le_ediv_iff_mul_le (by omega)).2 (by omega)
  · unfold el
    generalize d * 1000000 = c
    have e : (k + 1) * c = (k * c % n + c % n) + n * (k * c / n + c / n) := by
      have h1 := Int.mul_ediv_add_emod (k * c) n
      have h2 := Int.mul_ediv_add_emod c n
      rw [Int.mul_add n, Int.add_mul, Int.one_mul]
      omega
    rw [e, Int.add_mul_ediv_left _ _ hn]
    have a0 := Int.emod_nonneg (k * c) hn
    have a1 := Int.emod_lt_of_pos (k * c) (show 0 < n by omega)
    have b0 := Int.emod_nonneg c hn
    have b1 := Int.emod_lt_of_pos c (show 0 < n by omega)
    generalize k * c % n = x at *
    generalize c % n = y at *
    by_cases hx : x + y < n
    · rw [Int.ediv_eq_zero_of_lt (by omega) hx]; omega
    · have : (x + y) / n = 1 := by
        have := Int.add_mul_ediv_left (x + y - n) 1 hn
        rw [Int.mul_one, Int.sub_add_cancel] at this
        rw [this, Int.ediv_eq_zero_of_lt (by omega) (by omega)]; rfl
      omega
theorem el_num (n d k : Int) (h : RV n d) : el n d (k + n) = el n d k + d * 1000000 := by
  obtain ⟨n1, n2, d1, d2, _⟩ := h
  unfold el
  rw [Int.add_mul, Int.add_mul_ediv_left _ _ (by omega)]
theorem el_small (n d k : Int) (n1 : 1 ≤ n) (d1 : 1 ≤ d) (d2 : d ≤ 4096) (k0 : 0 ≤ k) (k1 : k ≤ 65536) : 0 ≤ el n d k ∧ el n d k ≤ 268435456000000 := by
  have m0 : 0 ≤ k * (d * 1000000) := Int.mul_nonneg k0 (by omega)
  have m1 : k * (d * 1000000) ≤ 65536 * 4096000000 := Int.mul_le_mul k1 (by omega) (by omega) (by omega)
  refine ⟨Int.ediv_nonneg m0 (by omega), ?_⟩
  have := Int.ediv_le_self n m0
  unfold el; omega
theorem el_zero (n d : Int) : el n d 0 = 0 := by unfold el; rw [Int.zero_mul, Int.zero_ediv]
set_option maxHeartbeats 4000000 in
set_option maxRecDepth 100000 in
theorem rateAscends_walk (a0 : Option Addr) (len0 cap0 : Nat) (z0 : List Int) (a1 : Int) (a2 : Int) (w : World) (w0 : Buf.IsRow .i64 w a0 len0 cap0 z0) (w1 : (Lit.int .u32 a1).wf = true) (w2 : (Lit.int .u16 a2).wf = true) :
    Calls Try.prog 9 #[.slice a0 len0 cap0, .int .u32 a1, .int .u16 a2] w fun e w' => e = .returned (.bool true) ∧ Below w.heap.size w w' := by
  obtain ⟨s0, s1⟩ := Ma.wf_u32 w1
  obtain ⟨k0, k1⟩ := Ma.wf_u16 w2
  clear w1 w2
  by_cases hs : len0 ≤ 500
  · have hd : decide ((len0 : Int) ≤ 500) = true := by simp; omega
    go_enter Try.func9, Try.ntmps9
    go_wp2_with (first | (go_at_call 15; refine (light_any _ _ _ _).mono ?_; rintro e w1 ⟨rfl, rfl⟩; rw [hd]) | (go_at_call 17; refine (roll_any a0 len0 cap0 z0 _ w0 hs).mono ?_; rintro e w2 ⟨rfl, hdi⟩))
    refine (rate_any hdi).mono ?_
    rintro e w3 ⟨⟨n, d, rfl, hrv⟩, hl⟩
    have hbel : Hid (Below w1.heap.size w1 w3) := Lib.hid hl.di.bel
    clear hl hdi w0
    obtain ⟨n1, n2, d1, d2, _⟩ := id hrv
    obtain ⟨p1, hst⟩ := el_step n d a2 hrv
    obtain ⟨p0, hst0⟩ := el_step n d (a2 - 1) hrv
    rw [Int.sub_add_cancel] at hst0
    have hnum := el_num n d a2 hrv
    obtain ⟨e0, e1⟩ := el_small n d a2 n1 d1 d2 k0 (by omega)
    obtain ⟨f0, f1⟩ := el_small n d (a2 + 1) n1 d1 d2 (by omega) (by omega)
    have hp2 : d * 1000000 / n ≤ d * 1000000 := Int.ediv_le_self _ (by omega)
    have T1 : Hid (∀ w, Calls Try.prog 45 #[.int .i64 a1, .agg #[.int .i64 n, .int .i64 d], .int .i64 a2] w fun e w' => e = .returned (.tuple #[.int .i64 (a1 + el n d a2), .int .i64 0]) ∧ Below w.heap.size w w') :=
      Lib.hid fun w => time_ok a1 n d a2 hrv w s0 (by omega) k0 (by omega)
    have T2 : Hid (∀ w, Calls Try.prog 45 #[.int .i64 a1, .agg #[.int .i64 n, .int .i64 d], .int .i64 (a2 + 1)] w fun e w' => e = .returned (.tuple #[.int .i64 (a1 + el n d (a2 + 1)), .int .i64 0]) ∧ Below w.heap.size w w') :=
      Lib.hid fun w => time_ok a1 n d (a2 + 1) hrv w s0 (by omega) (by omega) (by omega)
    have T3 : Hid (∀ w, Calls Try.prog 45 #[.int .i64 a1, .agg #[.int .i64 n, .int .i64 d], .int .i64 (a2 + n)] w fun e w' => e = .returned (.tuple #[.int .i64 (a1 + (el n d a2 + d * 1000000)), .int .i64 0]) ∧ Below w.heap.size w w') :=
      Lib.hid fun w => by rw [← hnum]; exact time_ok a1 n d (a2 + n) hrv w s0 (by omega) (by omega) (by omega)
    have L1 : lastF n d (el n d a2) = a2 := (lastF_of n d _ a2 n1 d1 (by omega) (Int.le_refl _) (.inr (by omega))).symm
    have L2 : lastF n d (el n d (a2 + 1) - 1) = a2 := (lastF_of n d _ a2 n1 d1 (by omega) (by omega) (.inr (by omega))).symm
    have I1 : Hid (∀ w, Calls Try.prog 47 #[.int .i64 a1, .agg #[.int .i64 n, .int .i64 d], .int .i64 (a1 + el n d a2)] w fun e w' => e = .returned (.tuple #[.int .i64 a2, .int .i64 0]) ∧ Below w.heap.size w w') :=
      Lib.hid fun w => by
        have := index_ok a1 n d (a1 + el n d a2) hrv w s0 (by omega) (by omega) (by omega)
        rwa [show a1 + el n d a2 - a1 = el n d a2 by omega, L1] at this
    have I2 : Hid (∀ w, Calls Try.prog 47 #[.int .i64 a1, .agg #[.int .i64 n, .int .i64 d], .int .i64 (a1 + el n d (a2 + 1) - 1)] w fun e w' => e = .returned (.tuple #[.int .i64 a2, .int .i64 0]) ∧ Below w.heap.size w w') :=
      Lib.hid fun w => by
        have := index_ok a1 n d (a1 + el n d (a2 + 1) - 1) hrv w s0 (by omega) (by omega) (by omega)
        rwa [show a1 + el n d (a2 + 1) - 1 - a1 = el n d (a2 + 1) - 1 by omega, L2] at this
    have N1 : Hid (∀ w, Calls Try.prog 49 #[.int .i64 a1, .agg #[.int .i64 n, .int .i64 d], .int .i64 (a1 + el n d a2)] w fun e w' => e = .returned (.tuple #[.int .i64 a2, .int .i64 0]) ∧ Below w.heap.size w w') :=
      Lib.hid fun w => by
        by_cases hz : a2 = 0
        · have := next_start a1 n d (a1 + el n d a2) hrv w s0 (by omega) (by omega) (by rw [hz, el_zero]; omega)
          rwa [hz] at this ⊢
        · have hm := el_mono n d 0 (a2 - 1) n1 d1 (by omega)
          rw [el_zero] at hm
          have L3 : lastF n d (el n d a2 - 1) = a2 - 1 := (lastF_of n d _ (a2 - 1) n1 d1 (by omega) (by omega) (.inr (by rw [Int.sub_add_cancel]; omega))).symm
          have := next_ok a1 n d (a1 + el n d a2) hrv w s0 (by omega) (by omega) (by omega) (by rw [show a1 + el n d a2 - a1 - 1 = el n d a2 - 1 by omega, L3]; omega)
          rwa [show a1 + el n d a2 - a1 - 1 = el n d a2 - 1 by omega, L3, Int.sub_add_cancel] at this
    have N2 : Hid (∀ w, Calls Try.prog 49 #[.int .i64 a1, .agg #[.int .i64 n, .int .i64 d], .int .i64 (a1 + el n d a2 + 1)] w fun e w' => e = .returned (.tuple #[.int .i64 (a2 + 1), .int .i64 0]) ∧ Below w.heap.size w w') :=
      Lib.hid fun w => by
        have h1 : a1 + el n d a2 + 1 - a1 - 1 = el n d a2 := by omega
        have := next_ok a1 n d (a1 + el n d a2 + 1) hrv w s0 (by omega) (by omega) (by omega) (by rw [h1, L1]; omega)
        rwa [h1, L1] at this
    generalize hE : el n d a2 = E at *
    generalize hF : el n d (a2 + 1) = F at *
    replace hst := Lib.hid hst
    clear hst0 hnum L1 L2 hE hF hrv
    go_wp2_with (first
      | (go_at_call 45; (first | with_reducible refine (T1.out _).mono ?_ | with_reducible refine (T2.out _).mono ?_ | with_reducible refine (T3.out _).mono ?_); rintro e w4 ⟨rfl, hb⟩; (first | replace hW := boxed_next hW hb | replace hW := boxed_next hW (Buf.of_drewN hb) | (have hW : Below (w3.heap.size + 1) (w3.alloc (.cells #[.int .i64 n, .int .i64 d] 62)) w4 := (by simpa using hb))); clear hb; obtain ⟨_, _⟩ := boxed hW)
      | (go_at_call 47; (first | with_reducible refine (I1.out _).mono ?_ | with_reducible refine (I2.out _).mono ?_); rintro e w4 ⟨rfl, hb⟩; (first | replace hW := boxed_next hW hb | replace hW := boxed_next hW (Buf.of_drewN hb)); clear hb; obtain ⟨_, _⟩ := boxed hW)
      | (go_at_call 49; (first | with_reducible refine (N1.out _).mono ?_ | with_reducible refine (N2.out _).mono ?_); rintro e w4 ⟨rfl, hb⟩; (first | replace hW := boxed_next hW hb | replace hW := boxed_next hW (Buf.of_drewN hb)); clear hb; obtain ⟨_, _⟩ := boxed hW)
      | (go_at_call 41; refine (sane_any _).mono ?_; rintro e w5 ⟨rfl, hb⟩; (first | replace hW := boxed_next hW hb | replace hW := boxed_next hW (Buf.of_drewN hb)); clear hb))
    all_goals first
      | (go_ret; exact ⟨rfl, Buf.then_ hbel.out (boxed_out hW)⟩)
      | (exfalso; rcases hst.out with hq | hq <;> omega)
  · have hd : decide ((len0 : Int) ≤ 500) = false := by simp; omega
    go_enter Try.func9, Try.ntmps9
    go_wp2_with (first | (go_at_call 15; refine (light_any _ _ _ _).mono ?_; rintro e w1 ⟨rfl, rfl⟩; rw [hd]) | (go_at_call 41; refine (sane_any _).mono ?_; rintro e w2 ⟨rfl, hb⟩))
    go_ret
    exact ⟨rfl, hb⟩
end Laws
end Go.Proofs.Ytmkcheiidhppbaa
