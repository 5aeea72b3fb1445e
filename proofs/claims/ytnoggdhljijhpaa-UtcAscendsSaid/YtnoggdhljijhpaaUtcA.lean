/- Contracts of dates: leapYear, daysOfMonth, dayNumber, Days, Date. -/
import Derived.Test.YtnoggdhljijhpaaUtcM
import Derived.Test.YtnoggdhljijhpaaDiceN
set_option linter.unusedVariables false
set_option linter.unusedSimpArgs false
namespace Go.Proofs.Ytnoggdhljijhpaa
open Go.RowKit
namespace Utc
theorem leapYear_any (y : Int) (w : World) (y0 : 1 ≤ y) (y9 : y ≤ 100000) :
    Calls Try.prog 38 #[.int .i64 y] w fun e w' => e = .returned (.bool (ly y)) ∧ w' = w := by
  have h : ly y = (decide (y % 4 = 0) && (decide (y % 100 ≠ 0) || decide (y % 400 = 0))) := by unfold ly; simp
  have H := Lib.hid h
  clear h
  by_cases h4 : y % 4 = 0 <;> by_cases h100 : y % 100 = 0 <;> by_cases h400 : y % 400 = 0
  all_goals
    go_enter Try.func38, Try.ntmps38
    go_wp2
    go_ret
    refine ⟨?_, rfl⟩
    rw [H.out]
    simp [h4, h100, h400]
theorem daysOfMonth_any (y m : Int) (w : World) (y0 : 1 ≤ y) (y9 : y ≤ 100000) (m0 : 1 ≤ m) (m9 : m ≤ 12) :
    Calls Try.prog 24 #[.int .i64 y, .int .i64 m] w fun e w' => e = .returned (.int .i64 (dim y m)) ∧ w' = w := by
  have LY := Lib.hid (leapYear_any y w y0 y9)
  cases hl : ly y with
  | true =>
    have hd : ∀ k : Int, m = k → dim y m = dim y k := fun k h => by rw [h]
    rw [hl] at LY
    rcases months m0 m9 with rfl | rfl | rfl | rfl | rfl | rfl | rfl | rfl | rfl | rfl | rfl | rfl
    all_goals
      go_enter Try.func24, Try.ntmps24
      go_wp2_with (go_at_call 38; with_reducible refine LY.out.mono ?_; rintro e w' ⟨rfl, rfl⟩)
      go_ret
      exact ⟨by simp [dim, hl], rfl⟩
  | false =>
    rw [hl] at LY
    rcases months m0 m9 with rfl | rfl | rfl | rfl | rfl | rfl | rfl | rfl | rfl | rfl | rfl | rfl
    all_goals
      go_enter Try.func24, Try.ntmps24
      go_wp2_with (go_at_call 38; with_reducible refine LY.out.mono ?_; rintro e w' ⟨rfl, rfl⟩)
      go_ret
      exact ⟨by simp [dim, hl], rfl⟩
theorem dayNumber_any (y m d : Int) (w : World) (y0 : 1 ≤ y) (y9 : y ≤ 100000) (m0 : 1 ≤ m) (m9 : m ≤ 12) (d0 : 0 ≤ d) (d9 : d ≤ 1000) :
    Calls Try.prog 25 #[.int .i64 y, .int .i64 m, .int .i64 d] w fun e w' => e = .returned (.int .i64 (dn y m d)) ∧ w' = w := by
  by_cases hm : m ≤ 2
  · have he : Hid (dn y m d = (y - 1) / 400 * 146097 + (y - 1) % 400 * 365 + (y - 1) % 400 / 4 - (y - 1) % 400 / 100 + ((153 * ((m + 9) % 12) + 2) / 5 + d - 1) - 719468) := Lib.hid (by unfold dn; rw [if_pos hm])
    go_enter Try.func25, Try.ntmps25
    go_wp2
    go_ret
    refine ⟨?_, rfl⟩
    rw [he.out]
    rfl
  · have he : Hid (dn y m d = y / 400 * 146097 + y % 400 * 365 + y % 400 / 4 - y % 400 / 100 + ((153 * ((m + 9) % 12) + 2) / 5 + d - 1) - 719468) := Lib.hid (by unfold dn; rw [if_neg hm])
    go_enter Try.func25, Try.ntmps25
    go_wp2
    go_ret
    refine ⟨?_, rfl⟩
    rw [he.out]
    rfl
theorem days_yes (y m d : Int) (w : World) (h : VD y m d) (y0 : 1970 ≤ y) (y9 : y ≤ 2300) :
    Calls Try.prog 7 #[.int .i64 y, .int .i64 m, .int .i64 d] w fun e w' => e = .returned (.tuple #[.int .i64 (dn y m d), .bool true]) ∧ w' = w := by
  obtain ⟨m0, m9, d0, d9⟩ := h
  have hd := (dim_in y m).2
  obtain ⟨D, hD⟩ : ∃ D, D = dim y m := ⟨_, rfl⟩
  have C := Lib.hid (daysOfMonth_any y m w (by omega) (by omega) m0 m9)
  rw [← hD] at C d9 hd
  clear hD
  have N := Lib.hid (dayNumber_any y m d w (by omega) (by omega) m0 m9 (by omega) (by omega))
  go_enter Try.func7, Try.ntmps7
  go_wp2_with (first | (go_at_call 24; with_reducible refine C.out.mono ?_; rintro e w' ⟨rfl, rfl⟩) | (go_at_call 25; with_reducible refine N.out.mono ?_; rintro e w' ⟨rfl, rfl⟩))
  go_ret2
  exact ⟨rfl, rfl⟩
theorem days_no (y m d : Int) (w : World) (h : y < 1970 ∨ 2300 < y ∨ m < 1 ∨ 12 < m ∨ d < 1 ∨ dim y m < d) :
    Calls Try.prog 7 #[.int .i64 y, .int .i64 m, .int .i64 d] w fun e w' => e = .returned (.tuple #[.int .i64 0, .bool false]) ∧ w' = w := by
  have done : ∀ _ : (y < 1970 ∨ (1970 ≤ y ∧ 2300 < y) ∨ (1970 ≤ y ∧ y ≤ 2300 ∧ m < 1) ∨ (1970 ≤ y ∧ y ≤ 2300 ∧ 1 ≤ m ∧ 12 < m) ∨ (1970 ≤ y ∧ y ≤ 2300 ∧ 1 ≤ m ∧ m ≤ 12 ∧ d < 1) ∨ (1970 ≤ y ∧ y ≤ 2300 ∧ 1 ≤ m ∧ m ≤ 12 ∧ 1 ≤ d ∧ dim y m < d)), 
      Calls Try.prog 7 #[.int .i64 y, .int .i64 m, .int .i64 d] w fun e w' => e = .returned (.tuple #[.int .i64 0, .bool false]) ∧ w' = w := by
    clear h
    intro h
    rcases h with h | ⟨y0, h⟩ | ⟨y0, y9, h⟩ | ⟨y0, y9, m0, h⟩ | ⟨y0, y9, m0, m9, h⟩ | ⟨y0, y9, m0, m9, d0, h⟩
    case inr.inr.inr.inr.inr =>
      obtain ⟨D, hD⟩ : ∃ D, D = dim y m := ⟨_, rfl⟩
      have C := Lib.hid (daysOfMonth_any y m w (by omega) (by omega) m0 m9)
      rw [← hD] at C h
      clear hD
      go_enter Try.func7, Try.ntmps7
      go_wp2_with (go_at_call 24; with_reducible refine C.out.mono ?_; rintro e w' ⟨rfl, rfl⟩)
      go_ret2
      exact ⟨rfl, rfl⟩
    all_goals
      go_enter Try.func7, Try.ntmps7
      go_wp2
      go_ret2
      exact ⟨rfl, rfl⟩
  refine done ?_
  clear done
  omega
theorem date_yes (n : Int) (w : World) (h0 : 0 ≤ n) (h9 : n ≤ 120894) :
    Calls Try.prog 9 #[.int .i64 n] w fun e w' => e = .returned (.tuple #[.int .i64 (dY n), .int .i64 (dM n), .int .i64 (dD n)]) ∧ w' = w := by
  have N := Lib.hid (dayNumber_any 2300 12 31 w (by omega) (by omega) (by omega) (by omega) (by omega) (by omega))
  rw [dn_last] at N
  obtain ⟨E, hE⟩ : ∃ E, E = (n + 719468) / 146097 := ⟨_, rfl⟩
  obtain ⟨e, he⟩ : ∃ e, e = (n + 719468) % 146097 := ⟨_, rfl⟩
  have e0 : 0 ≤ e := by omega
  have e1 : e ≤ 146096 := by omega
  have E0 : 4 ≤ E := by omega
  have E9 : E ≤ 5 := by omega
  obtain ⟨d0, d1, _⟩ := doy_in e e0 e1
  obtain ⟨y0, y9⟩ := yoe_in e e0 e1
  have hy : (e - e / 1460 + e / 36524 - e / 146096) / 365 = yoe e := rfl
  have hd : e - (365 * yoe e + yoe e / 4 - yoe e / 100) = doy e := rfl
  have hm : (5 * doy e + 2) / 153 = mp e := rfl
  have hY : Hid (dY n = if (mp e + 2) % 12 + 1 ≤ 2 then E * 400 + yoe e + 1 else E * 400 + yoe e) := Lib.hid (by rw [hE, he]; rfl)
  have hM : (mp e + 2) % 12 + 1 = dM n := by rw [he]; rfl
  have hD : doy e - (153 * mp e + 2) / 5 + 1 = dD n := by rw [he]; rfl
  rw [hM] at hY
  generalize dY n = Y at *
  generalize dM n = M at *
  generalize dD n = D at *
  generalize mp e = m at *
  generalize doy e = k at *
  generalize yoe e = y at *
  have m0 : 0 ≤ m := by omega
  have m9 : m ≤ 11 := by omega
  have M0 : 1 ≤ M := by omega
  have M9 : M ≤ 12 := by omega
  replace hE := hE.symm
  replace he := he.symm
  by_cases hM2 : M ≤ 2
  · have HY : Hid (Y = E * 400 + y + 1) := Lib.hid (by rw [hY.out, if_pos hM2])
    clear hY
    go_enter Try.func9, Try.ntmps9
    go_wp2_with (go_at_call 25; with_reducible refine N.out.mono ?_; rintro e w' ⟨rfl, rfl⟩)
    go_ret3
    exact ⟨by rw [HY.out]; rfl, rfl⟩
  · have HY : Hid (Y = E * 400 + y) := Lib.hid (by rw [hY.out, if_neg hM2])
    clear hY
    go_enter Try.func9, Try.ntmps9
    go_wp2_with (go_at_call 25; with_reducible refine N.out.mono ?_; rintro e w' ⟨rfl, rfl⟩)
    go_ret3
    exact ⟨by rw [HY.out]; rfl, rfl⟩
theorem date_no (n : Int) (w : World) (h : n < 0 ∨ 120894 < n) :
    Calls Try.prog 9 #[.int .i64 n] w fun e w' => e = .returned (.tuple #[.int .i64 0, .int .i64 0, .int .i64 0]) ∧ w' = w := by
  have N := Lib.hid (dayNumber_any 2300 12 31 w (by omega) (by omega) (by omega) (by omega) (by omega) (by omega))
  rw [dn_last] at N
  by_cases h0 : n < 0
  · go_enter Try.func9, Try.ntmps9
    go_wp2_with (go_at_call 25; with_reducible refine N.out.mono ?_; rintro e w' ⟨rfl, rfl⟩)
    go_ret3
    exact ⟨rfl, rfl⟩
  · have h9 : 120894 < n := by omega
    clear h
    go_enter Try.func9, Try.ntmps9
    go_wp2_with (go_at_call 25; with_reducible refine N.out.mono ?_; rintro e w' ⟨rfl, rfl⟩)
    go_ret3
    exact ⟨rfl, rfl⟩
end Utc
end Go.Proofs.Ytnoggdhljijhpaa
