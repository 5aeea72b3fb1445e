/- The walk of RateNearest. -/
import Derived.Test.YtodjblalonkldaaRateM
namespace Go.Proofs.Ytodjblalonkldaa
open Go.RowKit Dice Rate
namespace Laws
theorem el_lt (n d a b : Int) (h : RV n d) (hab : a < b) : el n d a < el n d b := by
  obtain ⟨p, q⟩ := el_step n d a h
  have := el_mono n d (a + 1) b h.n1 h.d1 (by omega)
  omega
theorem near_best (n d x : Int) (h : RV n d) (x0 : 0 ≤ x) : 0 ≤ nearF n d x ∧ nearF n d x ≤ 16777216 ∧ ∀ i, 0 ≤ i → i ≤ 16777216 →
    max (x - el n d (nearF n d x)) (el n d (nearF n d x) - x) ≤ max (el n d i - x) (x - el n d i) ∧ (i < nearF n d x → max (x - el n d (nearF n d x)) (el n d (nearF n d x) - x) < max (el n d i - x) (x - el n d i)) := by
  obtain ⟨l0, l1, l2, l3⟩ := lastF_spec n d x h.n1 h.d1 x0
  unfold nearF
  generalize lastF n d x = L at *
  split
  · rename_i hc
    refine ⟨by omega, by omega, fun i i0 i1 => ?_⟩
    by_cases hi : i ≤ L
    · have := el_mono n d i L h.n1 h.d1 hi
      omega
    · have := el_mono n d (L + 1) i h.n1 h.d1 (by omega)
      omega
  · rename_i hc
    refine ⟨by omega, by omega, fun i i0 i1 => ?_⟩
    by_cases hi : i < L
    · have := el_lt n d i L h hi
      omega
    · by_cases hi2 : i = L
      · rw [hi2]; omega
      · have := el_mono n d (L + 1) i h.n1 h.d1 (by omega)
        omega
theorem nearest_before (st n d t : Int) (h : RV n d) (w : World) (s0 : 0 ≤ st) (s1 : st ≤ 9007199254740992) (t0 : 0 ≤ t) (t1 : t < st) :
    Calls Try.prog 50 #[.int .i64 st, .agg #[.int .i64 n, .int .i64 d], .int .i64 t] w fun e w' => e = .returned (.tuple #[.int .i64 0, .int .i64 (t - st), .int .i64 0]) ∧ Below w.heap.size w w' := by
  have hdec : decide (t < st) = true := by simp; omega
  go_enter Try.func50, Try.ntmps50
  go_wp2_with (first | (go_at_call 84; refine (check_ok st n d t h _ s0 s1 (by omega) (by omega)).mono ?_; rintro e w1 ⟨rfl, hb⟩; obtain ⟨c0, c1⟩ := boxed (by simpa using hb)))
  go_ret3
  exact ⟨rfl, boxed_out (by simpa using hb)⟩
/-- What Nearest answers, and what makes it the nearest. -/
structure NB (n d s at' K O : Int) : Prop where
  k0 : 0 ≤ K
  k1 : K ≤ 16777216
  off : O = at' - s - el n d K
  o1 : O ≤ 8589934592
  o0 : -8589934592 ≤ O
  best : ∀ i, 0 ≤ i → i ≤ 16777216 → max O (-O) ≤ max (s + el n d i - at') (at' - (s + el n d i)) ∧ (i < K → max O (-O) < max (s + el n d i - at') (at' - (s + el n d i)))
  calls : ∀ w, Calls Try.prog 50 #[.int .i64 s, .agg #[.int .i64 n, .int .i64 d], .int .i64 at'] w fun e w' => e = .returned (.tuple #[.int .i64 K, .int .i64 O, .int .i64 0]) ∧ Below w.heap.size w w'
theorem nb_of (n d s at' : Int) (h : RV n d) (s0 : 0 ≤ s) (s1 : s ≤ 4294967295) (t0 : 0 ≤ at') (t1 : at' ≤ 8589934592) : ∃ K O, NB n d s at' K O := by
  by_cases ht : at' < s
  · refine ⟨0, at' - s, ⟨by omega, by omega, by rw [el_zero]; omega, by omega, by omega, fun i i0 i1 => ?_, fun w => nearest_before s n d at' h w s0 (by omega) t0 ht⟩⟩
    have := el_mono n d 0 i h.n1 h.d1 i0
    rw [el_zero] at this
    omega
  · obtain ⟨b0, b1, b2⟩ := near_best n d (at' - s) h (by omega)
    have hz := b2 0 (by omega) (by omega)
    rw [el_zero] at hz
    refine ⟨nearF n d (at' - s), at' - s - el n d (nearF n d (at' - s)), ⟨b0, b1, rfl, by omega, by omega, fun i i0 i1 => ?_, fun w => nearest_ok s n d at' h w s0 (by omega) (by omega) (by omega)⟩⟩
    have := b2 i i0 i1
    omega
set_option maxHeartbeats 4000000 in
set_option maxRecDepth 100000 in
theorem rateNearest_walk (a0 : Option Addr) (len0 cap0 : Nat) (z0 : List Int) (a1 : Int) (a2 : Int) (w : World) (w0 : Buf.IsRow .i64 w a0 len0 cap0 z0) (w1 : (Lit.int .u32 a1).wf = true) (w2 : (Lit.int .u32 a2).wf = true) :
    Calls Try.prog 9 #[.slice a0 len0 cap0, .int .u32 a1, .int .u32 a2] w fun e w' => e = .returned (.bool true) ∧ Below w.heap.size w w' := by
  obtain ⟨s0, s1⟩ := Ma.wf_u32 w1
  obtain ⟨k0, k1⟩ := Ma.wf_u32 w2
  clear w1 w2
  by_cases hs : len0 ≤ 500
  · have hd : decide ((len0 : Int) ≤ 500) = true := by simp; omega
    go_enter Try.func9, Try.ntmps9
    go_wp2_with (first | (go_at_call 14; refine (light_any _ _ _ _).mono ?_; rintro e w1 ⟨rfl, rfl⟩; rw [hd]) | (go_at_call 16; refine (roll_any a0 len0 cap0 z0 _ w0 hs).mono ?_; rintro e w2 ⟨rfl, hdi⟩))
    refine (rate_any hdi).mono ?_
    rintro e w3 ⟨⟨n, d, rfl, hrv⟩, hl⟩
    have hbel : Hid (Below w1.heap.size w1 w3) := Lib.hid hl.di.bel
    clear hl hdi w0
    by_cases hat : a1 + a2 - 1000 < 0
    · have hdd : decide (a1 + a2 - 1000 < 0) = true := by simp; omega
      go_wp2_with (go_at_call 40; refine (sane_any _).mono ?_; rintro e w5 ⟨rfl, hb⟩)
      go_ret
      exact ⟨rfl, Buf.then_ hbel.out (boxed_out (by simpa using hb))⟩
    · have hdd : decide (a1 + a2 - 1000 < 0) = false := by simp; omega
      obtain ⟨K, O, hk0, hk1, ho, o1, o0, hbest, hcalls⟩ := nb_of n d a1 (a1 + a2 - 1000) hrv s0 s1 (by omega) (by omega)
      replace hbest := Lib.hid hbest
      replace hcalls := Lib.hid hcalls
      obtain ⟨e0, e1⟩ := el_bd n d K hrv.n1 hrv.d1 hrv.d2 hk0 (by omega)
      have T1 : Hid (∀ w, Calls Try.prog 44 #[.int .i64 a1, .agg #[.int .i64 n, .int .i64 d], .int .i64 K] w fun e w' => e = .returned (.tuple #[.int .i64 (a1 + el n d K), .int .i64 0]) ∧ Below w.heap.size w w') :=
        Lib.hid fun w => time_ok a1 n d K hrv w s0 (by omega) hk0 hk1
      generalize el n d K = Y at *
      have hne : (O != a1 + a2 - 1000 - (a1 + Y)) = false := by rw [bne_eq_false_iff_eq]; omega
      replace ho := Lib.hid ho
      replace hrv := Lib.hid hrv
      go_wp2_with (first
        | (go_at_call 50; with_reducible refine (hcalls.out _).mono ?_; rintro e w4 ⟨rfl, hb⟩; have hW : Below (w3.heap.size + 1) (w3.alloc (.cells #[.int .i64 n, .int .i64 d] 62)) w4 := (by simpa using hb); clear hb; obtain ⟨_, _⟩ := boxed hW)
        | (go_at_call 44; with_reducible refine (T1.out _).mono ?_; rintro e w5 ⟨rfl, hb⟩; (first | replace hW := boxed_next hW hb | replace hW := boxed_next hW (Buf.of_drewN hb)); clear hb; obtain ⟨_, _⟩ := boxed hW))
      all_goals
        clear T1 hcalls ho
        go_loopw [15] (fun u wr => ∃ i : Int, u = .int .i64 i ∧ 0 ≤ i ∧ i ≤ K + 3 ∧ Below (w3.heap.size + 1) (w3.alloc (.cells #[.int .i64 n, .int .i64 d] 62)) wr) (fun u _ => (16777220 - intOf u).toNat)
        case atStart => exact ⟨_, rfl, by omega, by omega, hW⟩
        case round =>
          clear hW
          obtain ⟨i, rfl, i0, i1, hW⟩ := hrel
          obtain ⟨_, _⟩ := boxed hW
          by_cases hi : i ≤ K + 2
          · by_cases hm : i ≤ 16777216
            · obtain ⟨y0, y1⟩ := el_bd n d i hrv.out.n1 hrv.out.d1 hrv.out.d2 i0 (by omega)
              obtain ⟨b1, b2⟩ := hbest.out i i0 hm
              have T2 : Hid (∀ w, Calls Try.prog 44 #[.int .i64 a1, .agg #[.int .i64 n, .int .i64 d], .int .i64 i] w fun e w' => e = .returned (.tuple #[.int .i64 (a1 + el n d i), .int .i64 0]) ∧ Below w.heap.size w w') :=
                Lib.hid fun w => time_ok a1 n d i hrv.out w s0 (by omega) i0 hm
              generalize el n d i = Z at *
              go_wp2_with (go_at_call 44; with_reducible refine (T2.out _).mono ?_; rintro e w5 ⟨rfl, hb⟩; (first | replace hW := boxed_next hW hb | replace hW := boxed_next hW (Buf.of_drewN hb)); clear hb; obtain ⟨_, _⟩ := boxed hW)
              all_goals first
                | (exfalso; omega)
                | (exfalso; simp only [beq_iff_eq] at *; omega)
                | (go_roundw
                   case rel => exact ⟨i + 1, rfl, by omega, by omega, hW⟩
                   case measure => simp [intOf]; omega)
                | trace_state
            · have T2 : Hid (∀ w, Calls Try.prog 44 #[.int .i64 a1, .agg #[.int .i64 n, .int .i64 d], .int .i64 i] w fun e w' => e = .returned (.tuple #[.int .i64 0, .int .i64 2]) ∧ Below w.heap.size w w') :=
                Lib.hid fun w => time_bad a1 n d i hrv.out w s0 (by omega) (by omega)
              go_wp2_with (first | (go_at_call 44; with_reducible refine (T2.out _).mono ?_; rintro e w5 ⟨rfl, hb⟩; (first | replace hW := boxed_next hW hb | replace hW := boxed_next hW (Buf.of_drewN hb)); clear hb; obtain ⟨_, _⟩ := boxed hW) | (go_at_call 40; refine (sane_any _).mono ?_; rintro e w6 ⟨rfl, hb⟩; (first | replace hW := boxed_next hW hb | replace hW := boxed_next hW (Buf.of_drewN hb)); clear hb))
              go_ret
              exact ⟨rfl, Buf.then_ hbel.out (boxed_out hW)⟩
          · go_wp2_with (go_at_call 40; refine (sane_any _).mono ?_; rintro e w6 ⟨rfl, hb⟩; (first | replace hW := boxed_next hW hb | replace hW := boxed_next hW (Buf.of_drewN hb)); clear hb)
            go_ret
            exact ⟨rfl, Buf.then_ hbel.out (boxed_out hW)⟩
  · have hd : decide ((len0 : Int) ≤ 500) = false := by simp; omega
    go_enter Try.func9, Try.ntmps9
    go_wp2_with (first | (go_at_call 14; refine (light_any _ _ _ _).mono ?_; rintro e w1 ⟨rfl, rfl⟩; rw [hd]) | (go_at_call 40; refine (sane_any _).mono ?_; rintro e w2 ⟨rfl, hb⟩))
    go_ret
    exact ⟨rfl, hb⟩
end Laws
end Go.Proofs.Ytodjblalonkldaa
