/- Mathematics of dates: day numbers of dates, dates of day numbers. -/
import Derived.WalkKit
set_option linter.unusedVariables false
set_option linter.unusedSimpArgs false
namespace Go.Proofs.Ytnoggdhljijhpaa
namespace Utc
def dn (y m d : Int) : Int :=
  (if m ≤ 2 then y - 1 else y) / 400 * 146097 + (if m ≤ 2 then y - 1 else y) % 400 * 365 + (if m ≤ 2 then y - 1 else y) % 400 / 4 - (if m ≤ 2 then y - 1 else y) % 400 / 100 + ((153 * ((m + 9) % 12) + 2) / 5 + d - 1) - 719468
def ly (y : Int) : Bool := decide (y % 4 = 0 ∧ (y % 100 ≠ 0 ∨ y % 400 = 0))
def dim (y m : Int) : Int := if m = 2 then (if ly y then 29 else 28) else if m = 4 ∨ m = 6 ∨ m = 9 ∨ m = 11 then 30 else 31
def yoe (e : Int) : Int := (e - e / 1460 + e / 36524 - e / 146096) / 365
def sta (y : Int) : Int := 365 * y + y / 4 - y / 100
def doy (e : Int) : Int := e - (365 * yoe e + yoe e / 4 - yoe e / 100)
theorem yoe_in (e : Int) (h0 : 0 ≤ e) (h1 : e ≤ 146096) : 0 ≤ yoe e ∧ yoe e ≤ 399 := by
  unfold yoe; omega
theorem yoe_mono {a b : Int} (h0 : 0 ≤ a) (h : a ≤ b) (h1 : b ≤ 146096) : yoe a ≤ yoe b := by
  unfold yoe
  have : a - a / 1460 + a / 36524 - a / 146096 ≤ b - b / 1460 + b / 36524 - b / 146096 := by
    by_cases hb : b = 146096
    · subst hb; omega
    · omega
  omega
theorem yoe_sta : ∀ y : Fin 400, yoe (sta (y.val : Int)) = (y.val : Int) ∧ (y.val < 399 → yoe (sta ((y.val : Int) + 1) - 1) = (y.val : Int)) := by decide +kernel
/-- The year of an era that a day lies in. -/
theorem yoe_at (e : Int) (h0 : 0 ≤ e) (h1 : e ≤ 146096) : sta (yoe e) ≤ e ∧ (yoe e = 399 ∨ e < sta (yoe e + 1)) := by
  obtain ⟨y0, y9⟩ := yoe_in e h0 h1
  obtain ⟨k, hk⟩ := Int.eq_ofNat_of_zero_le y0
  have hk9 : k < 400 := by omega
  have s0 : sta (yoe e) ≤ 145731 ∧ 0 ≤ sta (yoe e) := by unfold sta; omega
  refine ⟨?_, ?_⟩
  · refine Int.not_lt.1 fun hlt => ?_
    by_cases hk0 : k = 0
    · subst hk0; rw [hk] at hlt; unfold sta at hlt; omega
    · have h2 := (yoe_sta ⟨k - 1, by omega⟩).2 (by show k - 1 < 399; omega)
      simp only at h2
      rw [show (((k - 1 : Nat) : Int) + 1) = (k : Int) by omega, ← hk] at h2
      have := yoe_mono h0 (show e ≤ sta (yoe e) - 1 by omega) (by omega)
      omega
  · by_cases h9 : yoe e = 399
    · exact .inl h9
    · refine .inr (Int.not_le.1 fun hle => ?_)
      have h2 := (yoe_sta ⟨k + 1, by omega⟩).1
      simp only at h2
      rw [show (((k + 1 : Nat)) : Int) = (k : Int) + 1 by omega, ← hk] at h2
      have := yoe_mono (show 0 ≤ sta (yoe e + 1) by unfold sta; omega) hle h1
      omega
theorem up4 (y : Int) : ((y + 1) % 4 = 0 ∧ (y + 1) / 4 = y / 4 + 1) ∨ ((y + 1) % 4 ≠ 0 ∧ (y + 1) / 4 = y / 4) := by omega
theorem up100 (y : Int) : ((y + 1) % 100 = 0 ∧ (y + 1) / 100 = y / 100 + 1) ∨ ((y + 1) % 100 ≠ 0 ∧ (y + 1) / 100 = y / 100) := by omega
theorem doy_in (e : Int) (h0 : 0 ≤ e) (h1 : e ≤ 146096) : 0 ≤ doy e ∧ doy e ≤ 365 ∧ (doy e = 365 → (yoe e + 1) % 4 = 0 ∧ ((yoe e + 1) % 100 ≠ 0 ∨ yoe e = 399)) := by
  obtain ⟨h2, h3⟩ := yoe_at e h0 h1
  obtain ⟨y0, y9⟩ := yoe_in e h0 h1
  have u4 := up4 (yoe e)
  have u100 := up100 (yoe e)
  unfold doy
  unfold sta at *
  generalize yoe e = y at *
  rcases h3 with rfl | h3
  · refine ⟨by omega, by omega, fun _ => ⟨by omega, .inr rfl⟩⟩
  · rcases u4 with ⟨a, b⟩ | ⟨a, b⟩ <;> rcases u100 with ⟨c, d⟩ | ⟨c, d⟩ <;> rw [b, d] at h3 <;> refine ⟨by omega, by omega, fun h => ⟨by omega, .inl (by omega)⟩⟩
/-- The date of a day number: the month counted from March, the day of the year from March. -/
def mp (e : Int) : Int := (5 * doy e + 2) / 153
def dY (n : Int) : Int := if ((mp ((n + 719468) % 146097) + 2) % 12 + 1) ≤ 2 then (n + 719468) / 146097 * 400 + yoe ((n + 719468) % 146097) + 1 else (n + 719468) / 146097 * 400 + yoe ((n + 719468) % 146097)
def dM (n : Int) : Int := (mp ((n + 719468) % 146097) + 2) % 12 + 1
def dD (n : Int) : Int := doy ((n + 719468) % 146097) - (153 * mp ((n + 719468) % 146097) + 2) / 5 + 1
theorem date_ok (n : Int) (h0 : 0 ≤ n) (h1 : n ≤ 120894) : 1970 ≤ dY n ∧ dY n ≤ 2300 ∧ 1 ≤ dM n ∧ dM n ≤ 12 ∧ 1 ≤ dD n ∧ dD n ≤ dim (dY n) (dM n) ∧ dn (dY n) (dM n) (dD n) = n := by
  obtain ⟨E, hE⟩ : ∃ E, E = (n + 719468) / 146097 := ⟨_, rfl⟩
  obtain ⟨e, he⟩ : ∃ e, e = (n + 719468) % 146097 := ⟨_, rfl⟩
  have e0 : 0 ≤ e := by omega
  have e1 : e ≤ 146096 := by omega
  have hn : n = E * 146097 + e - 719468 := by omega
  obtain ⟨d0, d1, d2⟩ := doy_in e e0 e1
  obtain ⟨y0, y9⟩ := yoe_in e e0 e1
  have hd : e = 365 * yoe e + yoe e / 4 - yoe e / 100 + doy e := by unfold doy; omega
  have hE2 : E = 4 ∨ E = 5 := by omega
  unfold dY dM dD
  rw [← hE, ← he]
  have hm : 0 ≤ mp e ∧ mp e ≤ 11 := by unfold mp; omega
  have hmp : mp e = (5 * doy e + 2) / 153 := rfl
  generalize mp e = m at *
  generalize yoe e = y at *
  generalize doy e = k at *
  clear hE he
  obtain ⟨m0, m9⟩ := hm
  have hmm : m = 0 ∨ m = 1 ∨ m = 2 ∨ m = 3 ∨ m = 4 ∨ m = 5 ∨ m = 6 ∨ m = 7 ∨ m = 8 ∨ m = 9 ∨ m = 10 ∨ m = 11 := by omega
  have hY : (E * 400 + y) / 400 = E ∧ (E * 400 + y) % 400 = y := by omega
  obtain ⟨hY1, hY2⟩ := hY
  have key : ∀ z : Int, E * 146097 + y * 365 + y / 4 - y / 100 + (z + (k - z + 1) - 1) - 719468 = n := by intro z; omega
  have hk := fun z => (key z)
  rcases hmm with rfl | rfl | rfl | rfl | rfl | rfl | rfl | rfl | rfl | rfl | rfl | rfl
  case inr.inr.inr.inr.inr.inr.inr.inr.inr.inr.inr =>
    have h1 : E * 400 + y + 1 - 1 = E * 400 + y := by omega
    have hk9 : 337 ≤ k := by omega
    refine ⟨by simp; omega, by simp; omega, by decide, by decide, by omega, ?_, ?_⟩
    · have hl : k = 365 → ly (E * 400 + y + 1) = true := by
        intro hk3
        obtain ⟨h4, h5⟩ := d2 hk3
        unfold ly
        simp only [decide_eq_true_eq]
        refine ⟨by omega, ?_⟩
        rcases h5 with h5 | h5
        · left; omega
        · right; omega
      simp only [show ((11 + 2) % 12 + 1 : Int) = 2 from by decide, if_pos (show (2 : Int) ≤ 2 by omega), dim, if_true]
      by_cases h3 : k = 365
      · rw [hl h3]; simp; omega
      · split <;> omega
    · unfold dn
      simp only [show ((11 + 2) % 12 + 1 : Int) = 2 from by decide, if_pos (show (2 : Int) ≤ 2 by omega), h1, hY1, hY2]
      have := key ((153 * 11 + 2) / 5)
      omega
  case inr.inr.inr.inr.inr.inr.inr.inr.inr.inr.inl =>
    have h1 : E * 400 + y + 1 - 1 = E * 400 + y := by omega
    refine ⟨by simp; omega, by simp; omega, by decide, by decide, by omega, by simp [dim]; omega, ?_⟩
    unfold dn
    simp only [show ((10 + 2) % 12 + 1 : Int) = 1 from by decide, if_pos (show (1 : Int) ≤ 2 by omega), h1, hY1, hY2]
    have := key ((153 * 10 + 2) / 5)
    omega
  all_goals
    refine ⟨by simp; omega, by simp; omega, by decide, by decide, by omega, by simp [dim]; omega, ?_⟩
    unfold dn
    simp only [Int.reduceAdd, Int.reduceMod, Int.reduceLE, if_false, hY1, hY2]
    simp
    omega
/-- Days up to the March of a year. -/
def gy (y : Int) : Int := 365 * y + y / 4 - y / 100 + y / 400
theorem gy_is (y : Int) : y / 400 * 146097 + y % 400 * 365 + y % 400 / 4 - y % 400 / 100 = gy y := by
  unfold gy
  obtain ⟨E, hE⟩ : ∃ E, E = y / 400 := ⟨_, rfl⟩
  obtain ⟨r, hr⟩ : ∃ r, r = y % 400 := ⟨_, rfl⟩
  have h : y = E * 400 + r := by omega
  have r0 : 0 ≤ r := by omega
  have r9 : r < 400 := by omega
  have h4 : y / 4 = E * 100 + r / 4 := by omega
  have h100 : y / 100 = E * 4 + r / 100 := by omega
  rw [← hE, ← hr, h4, h100]
  omega
theorem gy_succ (y : Int) : gy (y + 1) = gy y + 365 + (if ly (y + 1) then 1 else 0) := by
  have a := up4 y
  have b := up100 y
  have c : ((y + 1) % 400 = 0 ∧ (y + 1) / 400 = y / 400 + 1) ∨ ((y + 1) % 400 ≠ 0 ∧ (y + 1) / 400 = y / 400) := by omega
  have d : (y + 1) % 400 = 0 → (y + 1) % 100 = 0 := by omega
  have e : (y + 1) % 100 = 0 → (y + 1) % 4 = 0 := by omega
  unfold gy ly
  rcases a with ⟨a1, a2⟩ | ⟨a1, a2⟩ <;> rcases b with ⟨b1, b2⟩ | ⟨b1, b2⟩ <;> rcases c with ⟨c1, c2⟩ | ⟨c1, c2⟩ <;> simp [a1, a2, b1, b2, c1, c2] <;> omega
def lp (y : Int) : Int := if ly y then 1 else 0
theorem lp_in (y : Int) : 0 ≤ lp y ∧ lp y ≤ 1 := by unfold lp; split <;> omega
/-- The first day of a year; the days of a year ahead of a month. -/
def yr (y : Int) : Int := gy (y - 1) + 306 - 719468
def mo (l m : Int) : Int := if m ≤ 2 then 31 * (m - 1) else (153 * (m - 3) + 2) / 5 + 59 + l
theorem yr_succ (y : Int) : yr (y + 1) = yr y + 365 + lp y := by
  have h := gy_succ (y - 1)
  have e : y - 1 + 1 = y := by omega
  unfold yr lp
  rw [show y + 1 - 1 = y by omega]
  rw [e] at h
  rw [h]; omega
theorem months {m : Int} (h0 : 1 ≤ m) (h1 : m ≤ 12) : m = 1 ∨ m = 2 ∨ m = 3 ∨ m = 4 ∨ m = 5 ∨ m = 6 ∨ m = 7 ∨ m = 8 ∨ m = 9 ∨ m = 10 ∨ m = 11 ∨ m = 12 := by omega
theorem dn_is (y m d : Int) (h0 : 1 ≤ m) (h1 : m ≤ 12) : dn y m d = yr y + mo (lp y) m + (d - 1) := by
  have h := gy_succ (y - 1)
  rw [show y - 1 + 1 = y by omega] at h
  have g1 := gy_is y
  have g2 := gy_is (y - 1)
  unfold dn yr mo
  unfold lp
  rcases months h0 h1 with rfl | rfl | rfl | rfl | rfl | rfl | rfl | rfl | rfl | rfl | rfl | rfl <;> simp <;> omega
theorem dim_is (y m : Int) (h0 : 1 ≤ m) (h1 : m ≤ 12) : mo (lp y) (m + 1) = mo (lp y) m + dim y m ∨ (m = 12 ∧ mo (lp y) 12 = 334 + lp y ∧ dim y m = 31) := by
  unfold mo dim lp
  rcases months h0 h1 with rfl | rfl | rfl | rfl | rfl | rfl | rfl | rfl | rfl | rfl | rfl | rfl <;> simp <;> (try (split <;> omega))
theorem dim_in (y m : Int) : 28 ≤ dim y m ∧ dim y m ≤ 31 := by
  unfold dim; split; (split <;> omega); (split <;> omega)
theorem mo_lt (l m k : Int) (l0 : 0 ≤ l) (h0 : 1 ≤ m) (h : m < k) (h1 : k ≤ 12) : mo l m + 28 ≤ mo l k := by
  unfold mo; split <;> split <;> omega
theorem mo_dim (y m k : Int) (h0 : 1 ≤ m) (h : m < k) (h1 : k ≤ 12) : mo (lp y) m + dim y m ≤ mo (lp y) k := by
  rcases dim_is y m h0 (by omega) with e | ⟨e, _⟩
  · by_cases hk : k = m + 1
    · subst hk; omega
    · have := mo_lt (lp y) (m + 1) k (lp_in y).1 (by omega) (by omega) h1
      omega
  · omega
theorem mo_end (y m : Int) (h0 : 1 ≤ m) (h1 : m ≤ 12) : mo (lp y) m + dim y m ≤ 365 + lp y ∧ 0 ≤ mo (lp y) m := by
  have := lp_in y
  refine ⟨?_, by unfold mo; split <;> omega⟩
  rcases dim_is y m h0 h1 with e | ⟨rfl, e, e'⟩
  · rw [← e]; unfold mo; split <;> omega
  · omega
theorem yr_le {y z : Int} (h : y < z) : yr y + 365 + lp y ≤ yr z := by
  obtain ⟨k, hk⟩ := Int.eq_ofNat_of_zero_le (show 0 ≤ z - (y + 1) by omega)
  obtain rfl : z = y + 1 + k := by omega
  clear h hk
  induction k with
  | zero => have := yr_succ y; simp; omega
  | succ k ih =>
    have h := yr_succ (y + 1 + k)
    have := lp_in (y + 1 + k)
    rw [show y + 1 + ((k + 1 : Nat) : Int) = y + 1 + k + 1 by omega]
    omega
structure VD (y m d : Int) : Prop where
  m1 : 1 ≤ m
  m9 : m ≤ 12
  d1 : 1 ≤ d
  d9 : d ≤ dim y m
theorem dn_lt {y m d y' m' d' : Int} (h : VD y m d) (h' : VD y' m' d') (hl : y < y' ∨ y = y' ∧ (m < m' ∨ m = m' ∧ d < d')) : dn y m d < dn y' m' d' := by
  rw [dn_is _ _ _ h.m1 h.m9, dn_is _ _ _ h'.m1 h'.m9]
  have e1 := mo_end y m h.m1 h.m9
  have e2 := mo_end y' m' h'.m1 h'.m9
  have := h.d1; have := h.d9; have := h'.d1; have := h'.d9
  rcases hl with hl | ⟨rfl, hl | ⟨rfl, hl⟩⟩
  · have := yr_le hl; omega
  · have := mo_dim y m m' h.m1 hl h'.m9; omega
  · omega
theorem dn_inj {y m d y' m' d' : Int} (h : VD y m d) (h' : VD y' m' d') (he : dn y m d = dn y' m' d') : y = y' ∧ m = m' ∧ d = d' := by
  rcases Int.lt_trichotomy y y' with h1 | rfl | h1
  · have := dn_lt h h' (.inl h1); omega
  · rcases Int.lt_trichotomy m m' with h2 | rfl | h2
    · have := dn_lt h h' (.inr ⟨rfl, .inl h2⟩); omega
    · rcases Int.lt_trichotomy d d' with h3 | rfl | h3
      · have := dn_lt h h' (.inr ⟨rfl, .inr ⟨rfl, h3⟩⟩); omega
      · exact ⟨rfl, rfl, rfl⟩
      · have := dn_lt h' h (.inr ⟨rfl, .inr ⟨rfl, h3⟩⟩); omega
    · have := dn_lt h' h (.inr ⟨rfl, .inl h2⟩); omega
  · have := dn_lt h' h (.inl h1); omega
theorem yr_1970 : yr 1970 = 0 := by decide
theorem dn_last : dn 2300 12 31 = 120894 := by decide
theorem dn_in {y m d : Int} (h : VD y m d) (y0 : 1970 ≤ y) (y9 : y ≤ 2300) : 0 ≤ dn y m d ∧ dn y m d ≤ 120894 := by
  have e1 := mo_end y m h.m1 h.m9
  have := h.d1; have := h.d9
  rw [dn_is _ _ _ h.m1 h.m9]
  have a := yr_1970
  have b : yr 2301 = 120895 := by decide
  refine ⟨?_, ?_⟩
  · by_cases hy : y = 1970
    · subst hy; omega
    · have := yr_le (show 1970 < y by omega); have := lp_in 1970; omega
  · have := yr_le (show y < 2301 by omega); omega
theorem vd_date (n : Int) (h0 : 0 ≤ n) (h1 : n ≤ 120894) : VD (dY n) (dM n) (dD n) := by
  obtain ⟨_, _, a, b, c, d, _⟩ := date_ok n h0 h1
  exact ⟨a, b, c, d⟩
/-- A date is the one that its day number gives. -/
theorem date_dn {y m d : Int} (h : VD y m d) (y0 : 1970 ≤ y) (y9 : y ≤ 2300) : dY (dn y m d) = y ∧ dM (dn y m d) = m ∧ dD (dn y m d) = d := by
  obtain ⟨a, b⟩ := dn_in h y0 y9
  exact dn_inj (vd_date _ a b) h (date_ok _ a b).2.2.2.2.2.2
end Utc
end Go.Proofs.Ytnoggdhljijhpaa
