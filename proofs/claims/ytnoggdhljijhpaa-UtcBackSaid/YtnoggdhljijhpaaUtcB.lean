/- Contracts of the reference's dates: In, leap, length, Days, Date. -/
import Derived.Test.YtnoggdhljijhpaaUtcA
set_option linter.unusedVariables false
set_option linter.unusedSimpArgs false
namespace Go.Proofs.Ytnoggdhljijhpaa
open Go.RowKit
namespace Utc
theorem in_yes (n lo hi : Int) (w : World) (h1 : lo ≤ n) (h2 : n ≤ hi) :
    Calls Try.prog 21 #[.int .i64 n, .int .i64 lo, .int .i64 hi] w fun e w' => e = .returned (.bool true) ∧ w' = w := by
  go_enter Try.func21, Try.ntmps21
  go_wp2
  go_ret
  exact ⟨rfl, rfl⟩
theorem in_no (n lo hi : Int) (w : World) (h : n < lo ∨ hi < n) :
    Calls Try.prog 21 #[.int .i64 n, .int .i64 lo, .int .i64 hi] w fun e w' => e = .returned (.bool false) ∧ w' = w := by
  by_cases h1 : n < lo
  · clear h
    go_enter Try.func21, Try.ntmps21
    go_wp2
    go_ret
    exact ⟨rfl, rfl⟩
  · have h2 : ¬ n ≤ hi := by omega
    have h3 : lo ≤ n := by omega
    clear h h1
    go_enter Try.func21, Try.ntmps21
    go_wp2
    go_ret
    exact ⟨rfl, rfl⟩
theorem leap_any (y : Int) (w : World) (y0 : 1 ≤ y) (y9 : y ≤ 100000) :
    Calls Try.prog 27 #[.int .i64 y] w fun e w' => e = .returned (.bool (ly y)) ∧ w' = w := by
  have h : ly y = (decide (y % 4 = 0) && (decide (y % 100 ≠ 0) || decide (y % 400 = 0))) := by unfold ly; simp
  have H := Lib.hid h
  clear h
  have a : y % 400 = 0 → y % 4 = 0 := by omega
  by_cases h4 : y % 4 = 0 <;> by_cases h100 : y % 100 = 0 <;> by_cases h400 : y % 400 = 0
  all_goals first | exact absurd (a h400) h4 | skip
  all_goals
    clear a
    go_enter Try.func27, Try.ntmps27
    go_wp2
    go_ret
    refine ⟨?_, rfl⟩
    rw [H.out]
    simp [h4, h100, h400]
theorem length_any (y m : Int) (w : World) (y0 : 1 ≤ y) (y9 : y ≤ 100000) (m0 : 1 ≤ m) (m9 : m ≤ 12) :
    Calls Try.prog 26 #[.int .i64 y, .int .i64 m] w fun e w' => e = .returned (.int .i64 (dim y m)) ∧ w' = w := by
  have LY := Lib.hid (leap_any y w y0 y9)
  cases hl : ly y with
  | true =>
    rw [hl] at LY
    rcases months m0 m9 with rfl | rfl | rfl | rfl | rfl | rfl | rfl | rfl | rfl | rfl | rfl | rfl
    all_goals
      go_enter Try.func26, Try.ntmps26
      go_wp2_with (go_at_call 27; with_reducible refine LY.out.mono ?_; rintro e w' ⟨rfl, rfl⟩)
      go_ret
      exact ⟨by simp [dim, hl], rfl⟩
  | false =>
    rw [hl] at LY
    rcases months m0 m9 with rfl | rfl | rfl | rfl | rfl | rfl | rfl | rfl | rfl | rfl | rfl | rfl
    all_goals
      go_enter Try.func26, Try.ntmps26
      go_wp2_with (go_at_call 27; with_reducible refine LY.out.mono ?_; rintro e w' ⟨rfl, rfl⟩)
      go_ret
      exact ⟨by simp [dim, hl], rfl⟩
theorem yr_mono {y z : Int} (h : y ≤ z) : yr y ≤ yr z := by
  by_cases e : y = z
  · subst e; exact Int.le_refl _
  · have := yr_le (show y < z by omega); have := lp_in y; omega
theorem yr_bd {y : Int} (h0 : 1970 ≤ y) (h9 : y ≤ 2301) : 0 ≤ yr y ∧ yr y ≤ 120895 := by
  have a := yr_mono h0; have b := yr_mono h9
  rw [yr_1970] at a
  rw [show yr 2301 = 120895 by decide] at b
  exact ⟨a, b⟩
theorem rdays_yes (y m d : Int) (w : World) (h : VD y m d) (y0 : 1970 ≤ y) (y9 : y ≤ 2300) :
    Calls Try.prog 8 #[.int .i64 y, .int .i64 m, .int .i64 d] w fun e w' => e = .returned (.tuple #[.int .i64 (dn y m d), .bool true]) ∧ w' = w := by
  obtain ⟨m0, m9, d0, d9⟩ := h
  have hd := (dim_in y m).2
  have C := Lib.hid fun k (k0 : 1 ≤ k) (k9 : k ≤ 12) w => length_any y k w (by omega) (by omega) k0 k9
  have DN := Lib.hid (dn_is y m d m0 m9)
  obtain ⟨D, hD⟩ : ∃ D, D = dim y m := ⟨_, rfl⟩
  have C1 := Lib.hid (C.out m m0 m9)
  rw [← hD] at d9 hd C1
  clear hD
  go_enter Try.func8, Try.ntmps8
  go_wp2_with (first | (go_at_call 21; refine (in_yes _ _ _ _ (by omega) (by omega)).mono ?_; rintro e w' ⟨rfl, rfl⟩) | (go_at_call 26; with_reducible refine (C1.out _).mono ?_; rintro e w' ⟨rfl, rfl⟩))
  clear C1
  go_loop [8, 9] (fun s8 s9 => ∃ n k : Int, s8 = .int .i64 n ∧ s9 = .int .i64 k ∧ 1970 ≤ k ∧ k ≤ y ∧ Hid (n = yr k + (d - 1)) ∧ 0 ≤ n ∧ n ≤ 121000) (fun _ s9 => (y - intOf s9).toNat)
  case atStart => exact ⟨d - 1, 1970, rfl, rfl, by omega, by omega, Lib.hid (by rw [yr_1970]; omega), by omega, by omega⟩
  case round =>
    obtain ⟨n, k, rfl, rfl, k0, k9, hn, n0, n9⟩ := hrel
    have L := Lib.hid fun w => leap_any k w (by omega) (by omega)
    have hs := Lib.hid (yr_succ k)
    by_cases hlt : k < y
    · have hb := yr_bd (y := k + 1) (by omega) (by omega)
      cases hl : ly k with
      | true =>
        have hn' : Hid (n + 365 + 1 = yr (k + 1) + (d - 1)) := Lib.hid (by rw [hs.out, hn.out]; unfold lp; rw [hl]; simp; omega)
        have n9' : n + 365 + 1 ≤ 121000 := by have := hn'.out; omega
        rw [hl] at L
        go_wp2_with (go_at_call 27; with_reducible refine (L.out _).mono ?_; rintro e w' ⟨rfl, rfl⟩)
        go_round
        case rel => exact ⟨_, k + 1, rfl, rfl, by omega, by omega, hn', by omega, n9'⟩
        case measure => simp [intOf]; omega
      | false =>
        have hn' : Hid (n + 365 = yr (k + 1) + (d - 1)) := Lib.hid (by rw [hs.out, hn.out]; unfold lp; rw [hl]; simp; omega)
        have n9' : n + 365 ≤ 121000 := by have := hn'.out; omega
        rw [hl] at L
        go_wp2_with (go_at_call 27; with_reducible refine (L.out _).mono ?_; rintro e w' ⟨rfl, rfl⟩)
        go_round
        case rel => exact ⟨_, k + 1, rfl, rfl, by omega, by omega, hn', by omega, n9'⟩
        case measure => simp [intOf]; omega
    · obtain rfl : k = y := by omega
      clear L hs
      go_wp2_with fail
      go_loop [8, 10] (fun s8 s10 => ∃ q j : Int, s8 = .int .i64 q ∧ s10 = .int .i64 j ∧ 1 ≤ j ∧ j ≤ m ∧ Hid (q = yr k + mo (lp k) j + (d - 1)) ∧ 0 ≤ q ∧ q ≤ 122000) (fun _ s10 => (m - intOf s10).toNat)
      case atStart => exact ⟨n, 1, rfl, rfl, by omega, by omega, Lib.hid (by rw [hn.out]; unfold mo; simp), by omega, by omega⟩
      case round =>
        obtain ⟨q, j, rfl, rfl, j0, j9, hq, q0, q9⟩ := hrel
        by_cases hj : j < m
        · have L := Lib.hid (C.out j j0 (by omega))
          have hm := dim_is k j j0 (by omega)
          have hm1 : mo (lp k) (j + 1) = mo (lp k) j + dim k j := by rcases hm with h | ⟨h, _⟩; exact h; omega
          have hi := dim_in k j
          have e1 := mo_end k (j + 1) (by omega) (by omega)
          have e2 := dim_in k (j + 1)
          have e3 := lp_in k
          have e4 := yr_bd (y := k) (by omega) (by omega)
          generalize dim k j = D at *
          have hq' : Hid (q + D = yr k + mo (lp k) (j + 1) + (d - 1)) := Lib.hid (by rw [hm1, hq.out]; omega)
          have q9' : q + D ≤ 122000 := by have := hq'.out; omega
          clear hm hm1 e1 e2 e3 e4
          go_wp2_with (go_at_call 26; with_reducible refine (L.out _).mono ?_; rintro e w' ⟨rfl, rfl⟩)
          go_round
          case rel => exact ⟨_, j + 1, rfl, rfl, by omega, by omega, hq', by omega, q9'⟩
          case measure => simp [intOf]; omega
        · obtain rfl : j = m := by omega
          go_wp2_with fail
          go_ret2
          exact ⟨by rw [DN.out, ← hq.out]; rfl, rfl⟩
theorem rdays_no (y m d : Int) (w : World) (h : y < 1970 ∨ 2300 < y ∨ m < 1 ∨ 12 < m ∨ d < 1 ∨ dim y m < d) :
    Calls Try.prog 8 #[.int .i64 y, .int .i64 m, .int .i64 d] w fun e w' => e = .returned (.tuple #[.int .i64 0, .bool false]) ∧ w' = w := by
  by_cases hy : y < 1970 ∨ 2300 < y
  · clear h
    have Y := Lib.hid fun w => in_no y 1970 2300 w hy
    clear hy
    go_enter Try.func8, Try.ntmps8
    go_wp2_with (go_at_call 21; with_reducible refine (Y.out _).mono ?_; rintro e w' ⟨rfl, rfl⟩)
    go_ret2
    exact ⟨rfl, rfl⟩
  · have y0 : 1970 ≤ y := by omega
    have y9 : y ≤ 2300 := by omega
    clear hy
    have Y := Lib.hid fun w => in_yes y 1970 2300 w y0 y9
    by_cases hm : m < 1 ∨ 12 < m
    · clear h
      have M := Lib.hid fun w => in_no m 1 12 w hm
      clear hm
      go_enter Try.func8, Try.ntmps8
      go_wp2_with (first | (go_at_call 21; with_reducible refine (Y.out _).mono ?_; rintro e w' ⟨rfl, rfl⟩) | (go_at_call 21; with_reducible refine (M.out _).mono ?_; rintro e w' ⟨rfl, rfl⟩))
      go_ret2
      exact ⟨rfl, rfl⟩
    · have m0 : 1 ≤ m := by omega
      have m9 : m ≤ 12 := by omega
      clear hm
      have M := Lib.hid fun w => in_yes m 1 12 w m0 m9
      have C := Lib.hid fun w => length_any y m w (by omega) (by omega) m0 m9
      have D := Lib.hid fun w => in_no d 1 (dim y m) w (by omega)
      clear h
      generalize dim y m = q at *
      go_enter Try.func8, Try.ntmps8
      go_wp2_with (first | (go_at_call 21; with_reducible refine (Y.out _).mono ?_; rintro e w' ⟨rfl, rfl⟩) | (go_at_call 21; with_reducible refine (M.out _).mono ?_; rintro e w' ⟨rfl, rfl⟩) | (go_at_call 26; with_reducible refine (C.out _).mono ?_; rintro e w' ⟨rfl, rfl⟩) | (go_at_call 21; with_reducible refine (D.out _).mono ?_; rintro e w' ⟨rfl, rfl⟩))
      go_ret2
      exact ⟨rfl, rfl⟩
theorem rdate_yes (n : Int) (w : World) (h0 : 0 ≤ n) (h9 : n ≤ 120894) :
    Calls Try.prog 10 #[.int .i64 n] w fun e w' => e = .returned (.tuple #[.int .i64 (dY n), .int .i64 (dM n), .int .i64 (dD n)]) ∧ w' = w := by
  have N := Lib.hid fun w => rdays_yes 2300 12 31 w ⟨by omega, by omega, by omega, by decide⟩ (by omega) (by omega)
  rw [dn_last] at N
  have I := Lib.hid fun w => in_yes n 0 120894 w h0 h9
  go_enter Try.func10, Try.ntmps10
  go_wp2_with (first | (go_at_call 8; with_reducible refine (N.out _).mono ?_; rintro e w' ⟨rfl, rfl⟩) | (go_at_call 21; with_reducible refine (I.out _).mono ?_; rintro e w' ⟨rfl, rfl⟩))
  clear N I
  go_loop [0, 2] (fun s0 s2 => ∃ q k : Int, s0 = .int .i64 q ∧ s2 = .int .i64 k ∧ 1970 ≤ k ∧ k ≤ 2300 ∧ Hid (n = yr k + q) ∧ 0 ≤ q ∧ q ≤ 120894) (fun _ s2 => (2300 - intOf s2).toNat)
  case atStart => exact ⟨n, 1970, rfl, rfl, by omega, by omega, Lib.hid (by rw [yr_1970]; omega), h0, h9⟩
  case round =>
    obtain ⟨q, k, rfl, rfl, k0, k9, hq, q0, q9⟩ := hrel
    have L := Lib.hid fun w => leap_any k w (by omega) (by omega)
    have hs := Lib.hid (yr_succ k)
    have hl01 := lp_in k
    have hlp : Hid (lp k = if ly k then 1 else 0) := Lib.hid rfl
    by_cases hlt : q < 365 + lp k
    · have hQ := Lib.hid hlt
      cases hl : ly k with
      | true =>
        have ge : q < 366 := by have := hlp.out; rw [hl] at this; simp at this; omega
        clear hlt hl01
        rw [hl] at L
        go_wp2_with (go_at_call 27; with_reducible refine (L.out _).mono ?_; rintro e w' ⟨rfl, rfl⟩)
        go_loop [0, 3] (fun s0 s3 => ∃ p j : Int, s0 = .int .i64 p ∧ s3 = .int .i64 j ∧ 1 ≤ j ∧ j ≤ 12 ∧ Hid (q = mo (lp k) j + p) ∧ 0 ≤ p ∧ p ≤ 366) (fun _ s3 => (12 - intOf s3).toNat)
        case atStart => exact ⟨q, 1, rfl, rfl, by omega, by omega, Lib.hid (by unfold mo; simp), q0, by omega⟩
        case round =>
          obtain ⟨p, j, rfl, rfl, j0, j9, hp, p0, p9⟩ := hrel
          have L := Lib.hid fun w => length_any k j w (by omega) (by omega) j0 j9
          have hm := Lib.hid (dim_is k j j0 j9)
          have hi := dim_in k j
          have fin : Hid (p < dim k j → dY n = k ∧ dM n = j ∧ dD n = p + 1) := Lib.hid fun hlt => by
            have hv : VD k j (p + 1) := ⟨j0, j9, by omega, by omega⟩
            have he : dn k j (p + 1) = n := by rw [dn_is k j (p + 1) j0 j9, hq.out, hp.out]; omega
            have := date_dn hv k0 k9
            rwa [he] at this
          have hp' : Hid (dim k j ≤ p → j < 12 ∧ q = mo (lp k) (j + 1) + (p - dim k j)) := Lib.hid fun hge => by
            rcases hm.out with e | ⟨rfl, e1, e2⟩
            · have hj : j < 12 := by
                refine Int.not_le.1 fun hc => ?_
                obtain rfl : j = 12 := by omega
                have e3 : mo (lp k) 12 = 334 + lp k := by unfold mo; simp
                have e4 : dim k 12 = 31 := by simp [dim]
                have := hp.out
                have hqq := hQ.out
                omega
              exact ⟨hj, by rw [e, hp.out]; omega⟩
            · have := hp.out
              have hqq := hQ.out
              omega
          clear hm
          generalize dim k j = D at *
          by_cases hc : p < D
          · obtain ⟨f1, f2, f3⟩ := fin.out hc
            replace f1 := Lib.hid f1
            replace f2 := Lib.hid f2
            replace f3 := Lib.hid f3
            go_wp2_with (go_at_call 26; with_reducible refine (L.out _).mono ?_; rintro e w' ⟨rfl, rfl⟩)
            go_ret3
            exact ⟨by rw [f1.out, f2.out, f3.out]; rfl, rfl⟩
          · obtain ⟨f1, f2⟩ := hp'.out (by omega)
            replace f2 := Lib.hid f2
            go_wp2_with (go_at_call 26; with_reducible refine (L.out _).mono ?_; rintro e w' ⟨rfl, rfl⟩)
            go_round
            case rel => exact ⟨_, j + 1, rfl, rfl, by omega, by omega, f2, by omega, by omega⟩
            case measure => simp [intOf]; omega
      | false =>
        have ge : q < 365 := by have := hlp.out; rw [hl] at this; simp at this; omega
        clear hlt hl01
        rw [hl] at L
        go_wp2_with (go_at_call 27; with_reducible refine (L.out _).mono ?_; rintro e w' ⟨rfl, rfl⟩)
        go_loop [0, 3] (fun s0 s3 => ∃ p j : Int, s0 = .int .i64 p ∧ s3 = .int .i64 j ∧ 1 ≤ j ∧ j ≤ 12 ∧ Hid (q = mo (lp k) j + p) ∧ 0 ≤ p ∧ p ≤ 366) (fun _ s3 => (12 - intOf s3).toNat)
        case atStart => exact ⟨q, 1, rfl, rfl, by omega, by omega, Lib.hid (by unfold mo; simp), q0, by omega⟩
        case round =>
          obtain ⟨p, j, rfl, rfl, j0, j9, hp, p0, p9⟩ := hrel
          have L := Lib.hid fun w => length_any k j w (by omega) (by omega) j0 j9
          have hm := Lib.hid (dim_is k j j0 j9)
          have hi := dim_in k j
          have fin : Hid (p < dim k j → dY n = k ∧ dM n = j ∧ dD n = p + 1) := Lib.hid fun hlt => by
            have hv : VD k j (p + 1) := ⟨j0, j9, by omega, by omega⟩
            have he : dn k j (p + 1) = n := by rw [dn_is k j (p + 1) j0 j9, hq.out, hp.out]; omega
            have := date_dn hv k0 k9
            rwa [he] at this
          have hp' : Hid (dim k j ≤ p → j < 12 ∧ q = mo (lp k) (j + 1) + (p - dim k j)) := Lib.hid fun hge => by
            rcases hm.out with e | ⟨rfl, e1, e2⟩
            · have hj : j < 12 := by
                refine Int.not_le.1 fun hc => ?_
                obtain rfl : j = 12 := by omega
                have e3 : mo (lp k) 12 = 334 + lp k := by unfold mo; simp
                have e4 : dim k 12 = 31 := by simp [dim]
                have := hp.out
                have hqq := hQ.out
                omega
              exact ⟨hj, by rw [e, hp.out]; omega⟩
            · have := hp.out
              have hqq := hQ.out
              omega
          clear hm
          generalize dim k j = D at *
          by_cases hc : p < D
          · obtain ⟨f1, f2, f3⟩ := fin.out hc
            replace f1 := Lib.hid f1
            replace f2 := Lib.hid f2
            replace f3 := Lib.hid f3
            go_wp2_with (go_at_call 26; with_reducible refine (L.out _).mono ?_; rintro e w' ⟨rfl, rfl⟩)
            go_ret3
            exact ⟨by rw [f1.out, f2.out, f3.out]; rfl, rfl⟩
          · obtain ⟨f1, f2⟩ := hp'.out (by omega)
            replace f2 := Lib.hid f2
            go_wp2_with (go_at_call 26; with_reducible refine (L.out _).mono ?_; rintro e w' ⟨rfl, rfl⟩)
            go_round
            case rel => exact ⟨_, j + 1, rfl, rfl, by omega, by omega, f2, by omega, by omega⟩
            case measure => simp [intOf]; omega
    · have k9' : k + 1 ≤ 2300 := by
        refine Int.not_lt.1 fun hc => ?_
        obtain rfl : k = 2300 := by omega
        have e1 : yr 2300 = 120530 := by decide
        have e2 : lp 2300 = 0 := by decide
        have := hq.out
        omega
      cases hl : ly k with
      | true =>
        have hn' : Hid (n = yr (k + 1) + (q - 366)) := Lib.hid (by rw [hs.out, hq.out, hlp.out, hl]; simp; omega)
        have ge : 366 ≤ q := by have := hlp.out; rw [hl] at this; simp at this; omega
        rw [hl] at L
        clear hlt hl01
        go_wp2_with (go_at_call 27; with_reducible refine (L.out _).mono ?_; rintro e w' ⟨rfl, rfl⟩)
        go_round
        case rel => exact ⟨_, k + 1, rfl, rfl, by omega, by omega, hn', by omega, by omega⟩
        case measure => simp [intOf]; omega
      | false =>
        have hn' : Hid (n = yr (k + 1) + (q - 365)) := Lib.hid (by rw [hs.out, hq.out, hlp.out, hl]; simp; omega)
        have ge : 365 ≤ q := by have := hlp.out; rw [hl] at this; simp at this; omega
        rw [hl] at L
        clear hlt hl01
        go_wp2_with (go_at_call 27; with_reducible refine (L.out _).mono ?_; rintro e w' ⟨rfl, rfl⟩)
        go_round
        case rel => exact ⟨_, k + 1, rfl, rfl, by omega, by omega, hn', by omega, by omega⟩
        case measure => simp [intOf]; omega
theorem rdate_no (n : Int) (w : World) (h : n < 0 ∨ 120894 < n) :
    Calls Try.prog 10 #[.int .i64 n] w fun e w' => e = .returned (.tuple #[.int .i64 0, .int .i64 0, .int .i64 0]) ∧ w' = w := by
  have N := Lib.hid fun w => rdays_yes 2300 12 31 w ⟨by omega, by omega, by omega, by decide⟩ (by omega) (by omega)
  rw [dn_last] at N
  have I := Lib.hid fun w => in_no n 0 120894 w h
  clear h
  go_enter Try.func10, Try.ntmps10
  go_wp2_with (first | (go_at_call 8; with_reducible refine (N.out _).mono ?_; rintro e w' ⟨rfl, rfl⟩) | (go_at_call 21; with_reducible refine (I.out _).mono ?_; rintro e w' ⟨rfl, rfl⟩))
  go_ret3
  exact ⟨rfl, rfl⟩
end Utc
end Go.Proofs.Ytnoggdhljijhpaa
