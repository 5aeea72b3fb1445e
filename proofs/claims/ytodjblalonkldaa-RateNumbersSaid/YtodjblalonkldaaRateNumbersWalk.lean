/- The walk of RateNumbers. -/
import Derived.Test.YtodjblalonkldaaRateC
import Derived.Test.YtodjblalonkldaaRateM
namespace Go.Proofs.Ytodjblalonkldaa
open Go.RowKit Dice Rate
namespace Laws
theorem num_el (n d k : Int) (h : RV n d) : numF n d (el n d k) = k := by
  obtain ⟨n1, n2, d1, d2, _⟩ := h
  rw [numF_eq n d _ d1]
  unfold el
  have hc : 1000000 ≤ d * 1000000 := by omega
  generalize d * 1000000 = c at *
  have h1 := Int.mul_ediv_add_emod (k * c) n
  have r0 := Int.emod_nonneg (k * c) (show n ≠ 0 by omega)
  have r1 := Int.emod_lt_of_pos (k * c) (show 0 < n by omega)
  rw [Int.mul_comm (k * c / n) n]
  have e : 2 * (n * (k * c / n)) + c = (c - 2 * (k * c % n)) + (2 * c) * k := by
    have : (2 * c) * k = 2 * (k * c) := by rw [Int.mul_assoc, Int.mul_comm c k]
    omega
  rw [e, Int.add_mul_ediv_left _ _ (by omega), Int.ediv_eq_zero_of_lt (by omega) (by omega), Int.zero_add]
theorem num_add (n d t : Int) (h : RV n d) : numF n d (t + d * 1000000) = numF n d t + n := by
  obtain ⟨n1, n2, d1, d2, _⟩ := h
  rw [numF_eq n d _ d1, numF_eq n d _ d1]
  have hc : 1000000 ≤ d * 1000000 := by omega
  generalize d * 1000000 = c at *
  have e : 2 * ((t + c) * n) + c = (2 * (t * n) + c) + (2 * c) * n := by
    rw [Int.add_mul, Int.mul_add, Int.mul_assoc 2 c n]; omega
  rw [e, Int.add_mul_ediv_left _ _ (by omega)]
theorem num_near (n d x : Int) (h : RV n d) (x0 : 0 ≤ x) : 0 ≤ numF n d x ∧ 2 * (max (el n d (numF n d x) - x) (x - el n d (numF n d x)) - 1) * n ≤ d * 1000000 := by
  obtain ⟨n1, n2, d1, d2, _⟩ := h
  rw [numF_eq n d _ d1]
  unfold el
  have hc : 1000000 ≤ d * 1000000 := by omega
  generalize d * 1000000 = c at *
  have p0 : 0 ≤ x * n := Int.mul_nonneg x0 (by omega)
  refine ⟨Int.ediv_nonneg (by omega) (by omega), ?_⟩
  generalize hq : (2 * (x * n) + c) / (2 * c) = q
  have h1 := Int.mul_ediv_add_emod (2 * (x * n) + c) (2 * c)
  have r0 := Int.emod_nonneg (2 * (x * n) + c) (show 2 * c ≠ 0 by omega)
  have r1 := Int.emod_lt_of_pos (2 * (x * n) + c) (show 0 < 2 * c by omega)
  rw [hq] at h1
  have e1 : 2 * c * q = 2 * (q * c) := by rw [Int.mul_assoc, Int.mul_comm c q]
  have h2 := Int.mul_ediv_add_emod (q * c) n
  have s0 := Int.emod_nonneg (q * c) (show n ≠ 0 by omega)
  have s1 := Int.emod_lt_of_pos (q * c) (show 0 < n by omega)
  generalize q * c / n = b at *
  have a1 : 2 * (b - x - 1) * n ≤ c := by
    have : 2 * (b - x - 1) * n = 2 * (n * b) - 2 * (x * n) - 2 * n := by
      rw [Int.mul_assoc, Int.sub_mul, Int.sub_mul, Int.mul_comm b n]; omega
    omega
  have a2 : 2 * (x - b - 1) * n ≤ c := by
    have : 2 * (x - b - 1) * n = 2 * (x * n) - 2 * (n * b) - 2 * n := by
      rw [Int.mul_assoc, Int.sub_mul, Int.sub_mul, Int.mul_comm b n]; omega
    omega
  rcases Int.le_total (b - x) (x - b) with hm | hm
  · rw [Int.max_eq_right hm]; exact a2
  · rw [Int.max_eq_left hm]; exact a1
set_option maxHeartbeats 4000000 in
set_option maxRecDepth 100000 in
theorem rateNumbers_walk (a0 : Option Addr) (len0 cap0 : Nat) (z0 : List Int) (a1 : Int) (a2 : Int) (w : World) (w0 : Buf.IsRow .i64 w a0 len0 cap0 z0) (w1 : (Lit.int .u16 a1).wf = true) (w2 : (Lit.int .u32 a2).wf = true) :
    Calls Try.prog 11 #[.slice a0 len0 cap0, .int .u16 a1, .int .u32 a2] w fun e w' => e = .returned (.bool true) ∧ Below w.heap.size w w' := by
  obtain ⟨s0, s1⟩ := Ma.wf_u16 w1
  obtain ⟨k0, k1⟩ := Ma.wf_u32 w2
  clear w1 w2
  by_cases hs : len0 ≤ 500
  · have hd : decide ((len0 : Int) ≤ 500) = true := by simp; omega
    go_enter Try.func11, Try.ntmps11
    go_wp2_with (first | (go_at_call 14; refine (light_any _ _ _ _).mono ?_; rintro e w1 ⟨rfl, rfl⟩; rw [hd]) | (go_at_call 16; refine (roll_any a0 len0 cap0 z0 _ w0 hs).mono ?_; rintro e w2 ⟨rfl, hdi⟩))
    refine (rate_any hdi).mono ?_
    rintro e w3 ⟨⟨n, d, rfl, hrv⟩, hl⟩
    have hbel : Hid (Below w1.heap.size w1 w3) := Lib.hid hl.di.bel
    clear hl hdi w0
    obtain ⟨n1, n2, d1, d2, _⟩ := id hrv
    obtain ⟨e0, e1⟩ := el_small n d a1 n1 d1 d2 s0 (by omega)
    have T1 : Hid (∀ w, Calls Try.prog 44 #[.int .i64 0, .agg #[.int .i64 n, .int .i64 d], .int .i64 a1] w fun e w' => e = .returned (.tuple #[.int .i64 (el n d a1), .int .i64 0]) ∧ Below w.heap.size w w') :=
      Lib.hid fun w => by
        have := time_ok 0 n d a1 hrv w (by omega) (by omega) s0 (by omega)
        rwa [Int.zero_add] at this
    have M1 : Hid (∀ w, Calls Try.prog 52 #[.agg #[.int .i64 n, .int .i64 d], .int .i64 (el n d a1)] w fun e w' => e = .returned (.tuple #[.int .i64 a1, .int .i64 0]) ∧ Below w.heap.size w w') :=
      Lib.hid fun w => by
        have := number_ok n d (el n d a1) hrv w (by omega) (by omega)
        rwa [num_el n d a1 hrv] at this
    have M2 : Hid (∀ w, Calls Try.prog 52 #[.agg #[.int .i64 n, .int .i64 d], .int .i64 (el n d a1 + d * 1000000)] w fun e w' => e = .returned (.tuple #[.int .i64 (a1 + n), .int .i64 0]) ∧ Below w.heap.size w w') :=
      Lib.hid fun w => by
        have := number_ok n d (el n d a1 + d * 1000000) hrv w (by omega) (by omega)
        rwa [num_add n d _ hrv, num_el n d a1 hrv] at this
    obtain ⟨q0, q1⟩ := num_near n d a2 hrv k0
    have M3 : Hid (∀ w, Calls Try.prog 52 #[.agg #[.int .i64 n, .int .i64 d], .int .i64 a2] w fun e w' => e = .returned (.tuple #[.int .i64 (numF n d a2), .int .i64 0]) ∧ Below w.heap.size w w') :=
      Lib.hid fun w => number_ok n d a2 hrv w (by omega) (by omega)
    have T2 : Hid (numF n d a2 ≤ 16777216 → ∀ w, Calls Try.prog 44 #[.int .i64 0, .agg #[.int .i64 n, .int .i64 d], .int .i64 (numF n d a2)] w fun e w' => e = .returned (.tuple #[.int .i64 (el n d (numF n d a2)), .int .i64 0]) ∧ Below w.heap.size w w') :=
      Lib.hid fun hq w => by
        have := time_ok 0 n d (numF n d a2) hrv w (by omega) (by omega) q0 (by omega)
        rwa [Int.zero_add] at this
    have q2 : numF n d a2 ≤ 9223372036854775807 := by
      rw [numF_eq n d a2 d1]
      have p0 : 0 ≤ a2 * n := Int.mul_nonneg k0 (by omega)
      have p1 : a2 * n ≤ 4294967295 * 4096 := Int.mul_le_mul k1 n2 (by omega) (by omega)
      exact Int.le_trans (Int.ediv_le_self _ (by omega)) (by omega)
    have f : numF n d a2 ≤ 16777216 → 0 ≤ el n d (numF n d a2) ∧ el n d (numF n d a2) ≤ 68719480832000000 := fun h => el_bd n d _ n1 d1 d2 q0 (by omega)
    generalize el n d (numF n d a2) = F at *
    generalize numF n d a2 = Q at *
    generalize el n d a1 = E at *
    by_cases hQ : Q ≤ 16777216
    · obtain ⟨f0, f1⟩ := f hQ
      have T2 := Lib.hid (T2.out hQ)
      have hdq : decide (16777216 < Q) = false := by simp; omega
      rcases Int.lt_or_le (F - a2) (a2 - F) with hm | hm
      · rw [Int.max_eq_right (Int.le_of_lt hm)] at q1
        have u0 : -8192 ≤ 2 * (a2 - F - 1) * n := by
          have : 0 ≤ 2 * (a2 - F) * n := Int.mul_nonneg (by omega) (by omega)
          have e : 2 * (a2 - F - 1) * n = 2 * (a2 - F) * n - 2 * n := by rw [show 2 * (a2 - F - 1) = 2 * (a2 - F) - 2 by omega, Int.sub_mul]
          omega
        have u1 : 2 * (a2 - F - 1) * n ≤ 4096000000 := by omega
        go_wp2_with (first
      | (go_at_call 44; (first | with_reducible refine (T1.out _).mono ?_ | with_reducible refine (T2.out _).mono ?_); rintro e w4 ⟨rfl, hb⟩; (first | replace hW := boxed_next hW hb | replace hW := boxed_next hW (Buf.of_drewN hb) | (have hW : Below (w3.heap.size + 1) (w3.alloc (.cells #[.int .i64 n, .int .i64 d] 62)) w4 := (by simpa using hb))); clear hb; obtain ⟨_, _⟩ := boxed hW)
      | (go_at_call 52; (first | with_reducible refine (M1.out _).mono ?_ | with_reducible refine (M2.out _).mono ?_ | with_reducible refine (M3.out _).mono ?_); rintro e w4 ⟨rfl, hb⟩; (first | replace hW := boxed_next hW hb | replace hW := boxed_next hW (Buf.of_drewN hb)); clear hb; obtain ⟨_, _⟩ := boxed hW)
      | (go_at_call 40; refine (sane_any _).mono ?_; rintro e w5 ⟨rfl, hb⟩; (first | replace hW := boxed_next hW hb | replace hW := boxed_next hW (Buf.of_drewN hb)); clear hb))
        all_goals first
          | (go_ret; exact ⟨rfl, Buf.then_ hbel.out (boxed_out hW)⟩)
          | (exfalso; omega)
          | trace_state
      · rw [Int.max_eq_left hm] at q1
        have u0 : -8192 ≤ 2 * (F - a2 - 1) * n := by
          have : 0 ≤ 2 * (F - a2) * n := Int.mul_nonneg (by omega) (by omega)
          have e : 2 * (F - a2 - 1) * n = 2 * (F - a2) * n - 2 * n := by rw [show 2 * (F - a2 - 1) = 2 * (F - a2) - 2 by omega, Int.sub_mul]
          omega
        have u1 : 2 * (F - a2 - 1) * n ≤ 4096000000 := by omega
        go_wp2_with (first
      | (go_at_call 44; (first | with_reducible refine (T1.out _).mono ?_ | with_reducible refine (T2.out _).mono ?_); rintro e w4 ⟨rfl, hb⟩; (first | replace hW := boxed_next hW hb | replace hW := boxed_next hW (Buf.of_drewN hb) | (have hW : Below (w3.heap.size + 1) (w3.alloc (.cells #[.int .i64 n, .int .i64 d] 62)) w4 := (by simpa using hb))); clear hb; obtain ⟨_, _⟩ := boxed hW)
      | (go_at_call 52; (first | with_reducible refine (M1.out _).mono ?_ | with_reducible refine (M2.out _).mono ?_ | with_reducible refine (M3.out _).mono ?_); rintro e w4 ⟨rfl, hb⟩; (first | replace hW := boxed_next hW hb | replace hW := boxed_next hW (Buf.of_drewN hb)); clear hb; obtain ⟨_, _⟩ := boxed hW)
      | (go_at_call 40; refine (sane_any _).mono ?_; rintro e w5 ⟨rfl, hb⟩; (first | replace hW := boxed_next hW hb | replace hW := boxed_next hW (Buf.of_drewN hb)); clear hb))
        all_goals first
          | (go_ret; exact ⟨rfl, Buf.then_ hbel.out (boxed_out hW)⟩)
          | (exfalso; omega)
          | trace_state
    · clear f q1 T2
      go_wp2_with (first
      | (go_at_call 44; with_reducible refine (T1.out _).mono ?_; rintro e w4 ⟨rfl, hb⟩; (first | replace hW := boxed_next hW hb | replace hW := boxed_next hW (Buf.of_drewN hb) | (have hW : Below (w3.heap.size + 1) (w3.alloc (.cells #[.int .i64 n, .int .i64 d] 62)) w4 := (by simpa using hb))); clear hb; obtain ⟨_, _⟩ := boxed hW)
      | (go_at_call 52; (first | with_reducible refine (M1.out _).mono ?_ | with_reducible refine (M2.out _).mono ?_ | with_reducible refine (M3.out _).mono ?_); rintro e w4 ⟨rfl, hb⟩; (first | replace hW := boxed_next hW hb | replace hW := boxed_next hW (Buf.of_drewN hb)); clear hb; obtain ⟨_, _⟩ := boxed hW)
      | (go_at_call 40; refine (sane_any _).mono ?_; rintro e w5 ⟨rfl, hb⟩; (first | replace hW := boxed_next hW hb | replace hW := boxed_next hW (Buf.of_drewN hb)); clear hb))
      all_goals first
        | (go_ret; exact ⟨rfl, Buf.then_ hbel.out (boxed_out hW)⟩)
        | (exfalso; omega)
        | trace_state
  · have hd : decide ((len0 : Int) ≤ 500) = false := by simp; omega
    go_enter Try.func11, Try.ntmps11
    go_wp2_with (first | (go_at_call 14; refine (light_any _ _ _ _).mono ?_; rintro e w1 ⟨rfl, rfl⟩; rw [hd]) | (go_at_call 40; refine (sane_any _).mono ?_; rintro e w2 ⟨rfl, hb⟩))
    go_ret
    exact ⟨rfl, hb⟩
end Laws
end Go.Proofs.Ytodjblalonkldaa
