/- The walk of ClockWidens. -/
import Derived.Test.YtodjblalonkldaaClockC
namespace Go.Proofs.Ytodjblalonkldaa
open Go.RowKit Rate Dice
namespace Laws
open Clock
theorem lo_eq (x d : Int) (x0 : 0 ≤ x) : loE x d = d * 1000000 / (1000000 + x) := by
  unfold loE
  have h := Int.mul_ediv_add_emod d (1000000 + x)
  have hf : 1000000 + x ≠ 0 := by omega
  generalize 1000000 + x = f at *
  have e : d * 1000000 = d % f * 1000000 + f * (d / f * 1000000) := by
    rw [← Int.mul_assoc]; generalize f * (d / f) = t at *; omega
  rw [e, Int.add_mul_ediv_left _ _ hf]
  omega
theorem hi_eq (x d : Int) (x1 : x ≤ 500000) : hiE x d = (d * 1000000 + (1000000 - x) - 1) / (1000000 - x) := by
  unfold hiE
  have h := Int.mul_ediv_add_emod d (1000000 - x)
  have hf0 : 500000 ≤ 1000000 - x := by omega
  generalize 1000000 - x = f at *
  have hf : f ≠ 0 := by omega
  have e : d * 1000000 + f - 1 = (d % f * 1000000 + f - 1) + f * (d / f * 1000000) := by
    rw [← Int.mul_assoc]; generalize f * (d / f) = t at *; omega
  rw [e, Int.add_mul_ediv_left _ _ hf]
  omega
/-- The least time. -/
structure Lo (x y r : Int) : Prop where
  nn : 0 ≤ r
  le : r * (1000000 + x) ≤ y * 1000000
  gt : y * 1000000 < (r + 1) * (1000000 + x)
structure Hi (x y r : Int) : Prop where
  nn : 0 ≤ r
  ge : y * 1000000 ≤ r * (1000000 - x)
  lt : (r - 1) * (1000000 - x) < y * 1000000
theorem lo_of (x y : Int) (x0 : 0 ≤ x) (y0 : 0 ≤ y) : Lo x y (loE x y) := by
  rw [lo_eq x y x0]
  have hf : 0 < 1000000 + x := by omega
  refine ⟨Int.ediv_nonneg (by omega) (by omega), Int.ediv_mul_le _ (by omega), ?_⟩
  have := Int.lt_mul_ediv_self_add (x := y * 1000000) hf
  rw [Int.add_mul, Int.one_mul, Int.mul_comm (y * 1000000 / (1000000 + x))]; exact this
theorem ceil_of (A f : Int) (hf : 0 < f) (hA : 0 ≤ A) : 0 ≤ (A + f - 1) / f ∧ A ≤ (A + f - 1) / f * f ∧ ((A + f - 1) / f - 1) * f < A := by
  have a := Int.mul_ediv_add_emod (A + f - 1) f
  have b := Int.emod_nonneg (A + f - 1) (show f ≠ 0 by omega)
  have c := Int.emod_lt_of_pos (A + f - 1) hf
  rw [Int.mul_comm] at a
  refine ⟨Int.ediv_nonneg (by omega) (by omega), by omega, ?_⟩
  rw [Int.sub_mul, Int.one_mul]; omega
theorem hi_of (x y : Int) (_x0 : 0 ≤ x) (x1 : x ≤ 500000) (y0 : 0 ≤ y) : Hi x y (hiE x y) := by
  rw [hi_eq x y x1]
  obtain ⟨a, b, c⟩ := ceil_of (y * 1000000) (1000000 - x) (by omega) (by omega)
  exact ⟨a, b, c⟩
theorem lt_of_mul {a b f : Int} (hf : 0 < f) (h : a * f < b * f) : a < b := Int.lt_of_mul_lt_mul_right h (Int.le_of_lt hf)
theorem lo_mono {x y y' z r r' : Int} (x0 : 0 ≤ x) (hz : x ≤ z) (hy : y ≤ y') (h : Lo z y r) (h' : Lo x y' r') : r ≤ r' := by
  have a := Int.mul_le_mul_of_nonneg_left (show 1000000 + x ≤ 1000000 + z by omega) h.nn
  have := lt_of_mul (show 0 < 1000000 + x by omega) (show r * (1000000 + x) < (r' + 1) * (1000000 + x) from by have := h.le; have := h'.gt; omega)
  omega
theorem hi_mono {x y y' z r r' : Int} (z1 : z ≤ 500000) (hz : x ≤ z) (hy : y ≤ y') (h : Hi x y r) (h' : Hi z y' r') : r ≤ r' := by
  have a := Int.mul_le_mul_of_nonneg_left (show 1000000 - z ≤ 1000000 - x by omega) h'.nn
  have := lt_of_mul (show 0 < 1000000 - x by omega) (show (r - 1) * (1000000 - x) < r' * (1000000 - x) from by have := h.lt; have := h'.ge; omega)
  omega
theorem lo_self {x y r : Int} (x0 : 0 ≤ x) (h : Lo x y r) : r ≤ y := by
  have a := Int.mul_le_mul_of_nonneg_left (show 1000000 ≤ 1000000 + x by omega) h.nn
  have := h.le
  omega
theorem hi_self {x y r : Int} (x0 : 0 ≤ x) (h : Hi x y r) : y ≤ r := by
  have a := Int.mul_le_mul_of_nonneg_left (show 1000000 - x ≤ 1000000 by omega) h.nn
  have := h.ge
  omega
theorem hi_bd {x y r : Int} (x1 : x ≤ 500000) (y1 : y ≤ 5000000000) (h : Hi x y r) : r ≤ 10000000001 := by
  have a := h.lt
  by_cases hr : r ≤ 10000000001
  · exact hr
  · have b := Int.mul_le_mul (show 10000000001 ≤ r - 1 by omega) (show 500000 ≤ 1000000 - x by omega) (by decide) (by omega)
    omega
def EC (x y l h : Int) : Prop := ∀ w, Calls Try.prog 60 #[.int .i64 x, .int .i64 y] w fun e w' => e = .returned (.tuple #[.int .i64 l, .int .i64 h]) ∧ ∃ m, w' = w.drewN m
theorem widens (x y b z : Int) (x0 : 0 ≤ x) (xz : x ≤ z) (z1 : z ≤ 500000) (y0 : 0 ≤ y) (y1 : y ≤ 4294967295) (b0 : 0 ≤ b) (b1 : b ≤ 65535) :
    ∃ lo hi l h p q : Int, EC x y lo hi ∧ EC x (y + b) l h ∧ EC z y p q ∧ (0 ≤ lo ∧ lo ≤ y ∧ y ≤ hi ∧ hi ≤ 10000000001 ∧ lo ≤ l ∧ hi ≤ h ∧ p ≤ lo ∧ hi ≤ q) ∧ lo * (1000000 + x) ≤ y * 1000000 ∧ y * 1000000 < (lo + 1) * (1000000 + x) ∧ y * 1000000 ≤ hi * (1000000 - x) ∧ (hi - 1) * (1000000 - x) < y * 1000000 := by
  have L1 := lo_of x y x0 y0
  have L2 := lo_of x (y + b) x0 (by omega)
  have L3 := lo_of z y (by omega) y0
  have H1 := hi_of x y x0 (by omega) y0
  have H2 := hi_of x (y + b) x0 (by omega) (by omega)
  have H3 := hi_of z y (by omega) z1 y0
  exact ⟨_, _, _, _, _, _, fun w => elapsed_any x y w x0 (by omega) y0 (by omega), fun w => elapsed_any x (y + b) w x0 (by omega) (by omega) (by omega), fun w => elapsed_any z y w (by omega) z1 y0 (by omega),
    ⟨L1.nn, lo_self x0 L1, hi_self x0 H1, hi_bd (by omega) (by omega) H1, lo_mono x0 (Int.le_refl _) (by omega) L1 L2, hi_mono (by omega) (Int.le_refl _) (by omega) H1 H2, lo_mono x0 xz (Int.le_refl _) L3 L1, hi_mono z1 xz (Int.le_refl _) H1 H3⟩, L1.le, L1.gt, H1.ge, H1.lt⟩
set_option maxHeartbeats 2000000 in
set_option maxRecDepth 100000 in
theorem clockWidens_walk (a0 : Int) (a1 : Int) (a2 : Int) (a3 : Int) (w0 : (Lit.int .u32 a0).wf = true) (w1 : (Lit.int .u16 a1).wf = true) (w2 : (Lit.int .u32 a2).wf = true) (w3 : (Lit.int .u32 a3).wf = true) (w : World) :
    Calls Try.prog 12 #[.int .u32 a0, .int .u16 a1, .int .u32 a2, .int .u32 a3] w fun e w' => e = .returned (.bool true) ∧ Below w.heap.size w w' := by
  obtain ⟨y0, y1⟩ := Ma.wf_u32 w0
  obtain ⟨b0, b1⟩ := Ma.wf_u16 w1
  obtain ⟨r0, r1⟩ := Ma.wf_u32 w2
  obtain ⟨t0, t1⟩ := Ma.wf_u32 w3
  clear w0 w1 w2 w3
  have x0 : 0 ≤ a2 % 500001 := by omega
  have x1 : a2 % 500001 ≤ 500000 := by omega
  have z0 : 0 ≤ a3 % 5000 := by omega
  have z1 : a3 % 5000 ≤ 4999 := by omega
  have fin : ∀ z, a2 % 500001 ≤ z → z ≤ 500000 → z = min (a2 % 500001 + a3 % 5000) 500000 → Calls Try.prog 12 #[.int .u32 a0, .int .u16 a1, .int .u32 a2, .int .u32 a3] w fun e w' => e = .returned (.bool true) ∧ Below w.heap.size w w' := by
    intro z hz1 hz2 hz
    obtain ⟨lo, hi, l, h, p, q, E1, E2, E3, ⟨f0, f1, f2, f3, f4, f5, f6, f7⟩, g1, g2, g3, g4⟩ := widens (a2 % 500001) a0 a1 z x0 hz1 hz2 y0 y1 b0 b1
    have u1 : 0 ≤ lo * (1000000 + a2 % 500001) := Int.mul_nonneg f0 (by omega)
    have u2 : (lo + 1) * (1000000 + a2 % 500001) ≤ 4294967296 * 1500000 := Int.mul_le_mul (by omega) (by omega) (by omega) (by decide)
    have u3 : hi * (1000000 - a2 % 500001) ≤ 10000000001 * 1000000 := Int.mul_le_mul (by omega) (by omega) (by omega) (by decide)
    have u4 : -1000000 ≤ (hi - 1) * (1000000 - a2 % 500001) := by
      have e : (hi - 1) * (1000000 - a2 % 500001) = hi * (1000000 - a2 % 500001) - (1000000 - a2 % 500001) := by rw [Int.sub_mul, Int.one_mul]
      have : 0 ≤ hi * (1000000 - a2 % 500001) := Int.mul_nonneg (by omega) (by omega)
      omega
    have E1' : Hid (∀ w, Calls Try.prog 60 #[.int .i64 (a2 % 500001), .int .i64 a0] w fun e w' => e = .returned (.tuple #[.int .i64 lo, .int .i64 hi]) ∧ ∃ m, w' = w.drewN m) := Lib.hid E1
    have E2' : Hid (∀ w, Calls Try.prog 60 #[.int .i64 (a2 % 500001), .int .i64 (a0 + a1)] w fun e w' => e = .returned (.tuple #[.int .i64 l, .int .i64 h]) ∧ ∃ m, w' = w.drewN m) := Lib.hid E2
    have E3' : Hid (∀ w, Calls Try.prog 60 #[.int .i64 z, .int .i64 a0] w fun e w' => e = .returned (.tuple #[.int .i64 p, .int .i64 q]) ∧ ∃ m, w' = w.drewN m) := Lib.hid E3
    clear E1 E2 E3
    by_cases hm : a2 % 500001 + a3 % 5000 ≤ 500000
    · obtain rfl : z = a2 % 500001 + a3 % 5000 := by rw [hz]; exact Int.min_eq_left hm
      clear hz hz1
      go_enter Try.func12, Try.ntmps12
      go_wp2_with (first
        | (go_at_call 60; (first | with_reducible refine (E1'.out _).mono ?_ | with_reducible refine (E2'.out _).mono ?_ | with_reducible refine (E3'.out _).mono ?_); rintro e w1 ⟨rfl, m, rfl⟩)
        | (go_at_call 61; refine (Clock.sane_any _).mono ?_; rintro e w2 ⟨rfl, hb⟩))
      go_ret
      exact ⟨rfl, Buf.then_ (Buf.below_drewN (Below.refl _ _) _) hb⟩
    · obtain rfl : z = 500000 := by rw [hz]; exact Int.min_eq_right (by omega)
      clear hz hz1
      go_enter Try.func12, Try.ntmps12
      go_wp2_with (first
        | (go_at_call 60; (first | with_reducible refine (E1'.out _).mono ?_ | with_reducible refine (E2'.out _).mono ?_ | with_reducible refine (E3'.out _).mono ?_); rintro e w1 ⟨rfl, m, rfl⟩)
        | (go_at_call 61; refine (Clock.sane_any _).mono ?_; rintro e w2 ⟨rfl, hb⟩))
      go_ret
      exact ⟨rfl, Buf.then_ (Buf.below_drewN (Below.refl _ _) _) hb⟩
  by_cases hm : a2 % 500001 + a3 % 5000 ≤ 500000
  · exact fin (a2 % 500001 + a3 % 5000) (by omega) hm (Int.min_eq_left hm).symm
  · exact fin 500000 (by omega) (by omega) (Int.min_eq_right (by omega)).symm
end Laws
end Go.Proofs.Ytodjblalonkldaa
