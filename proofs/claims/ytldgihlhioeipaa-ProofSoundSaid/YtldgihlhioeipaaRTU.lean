/- RTU: texts joined. -/
import Derived.Test.YtldgihlhioeipaaRoot
import Derived.Test.YtldgihlhioeipaaGeoAI
/- Floor and Ceil at any number; the same of the reference. -/
namespace Go.Proofs.Ytldgihlhioeipaa
open Go.RowKit
namespace Root
theorem sq_nn (x : Int) : 0 ≤ x * x := by
  by_cases h : 0 ≤ x
  · exact Int.mul_nonneg h h
  · have := Int.mul_nonneg (show 0 ≤ -x by omega) (show 0 ≤ -x by omega); rwa [Int.neg_mul_neg] at this
theorem rt_neg {n : Int} (h : n < 0) (k : Nat) : rt n k = 0 := by
  induction k with
  | zero => rfl
  | succ k ih =>
    show (if (rt n k + bt k) * (rt n k + bt k) ≤ n then rt n k + bt k else rt n k) = 0
    rw [if_neg (by have := sq_nn (rt n k + bt k); omega), ih]
theorem rt_all (n : Int) (n1 : n ≤ 9223372036854775807) (k : Nat) (hk : k ≤ 32) : 0 ≤ rt n k ∧ rt n k ≤ 3037000499 ∧ 0 ≤ rt n k * rt n k ∧ rt n k * rt n k ≤ 9223372036854775807 := by
  by_cases h : n < 0
  · rw [rt_neg h]; exact ⟨by omega, by omega, by omega, by omega⟩
  · obtain ⟨q, e, s, _⟩ := rt_inv n (by omega) n1 k hk
    have r0 : 0 ≤ rt n k := by rw [e]; exact Int.mul_nonneg (by omega) (Int.le_of_lt (Int.pow_pos (by decide)))
    have r1 : rt n k ≤ 3037000500 := sq_le_of r0 (Int.le_trans s (by omega)) (by decide)
    have r2 : rt n k ≠ 3037000500 := fun hh => by rw [hh] at s; omega
    exact ⟨r0, by omega, sq_nn _, by omega⟩
set_option maxHeartbeats 1000000 in
theorem rfloor_all (n : Int) (w : World) (n1 : n ≤ 9223372036854775807) :
    Calls Try.prog 88 #[.int .i64 n] w fun e w' => e = .returned (.int .i64 (rt n 32)) ∧ w' = w := by
  go_enter Try.func88, Try.ntmps88
  go_wp2
  go_loop [3, 4] (fun u v => ∃ k : Nat, k ≤ 32 ∧ ∃ r b : Int, u = .int .i64 r ∧ v = .int .i64 b ∧ Hid (r = rt n k) ∧ Hid (b = bt k)) (fun _ v => (intOf v).toNat)
  case atStart => exact ⟨0, by omega, 0, _, rfl, rfl, Lib.hid rfl, Lib.hid bt_zero.symm⟩
  case round =>
    obtain ⟨k, hk, r, b, rfl, rfl, hr, hb⟩ := hrel
    by_cases hlt : k < 32
    · have hbk : b = 2 ^ (31 - k) := by rw [hb.out]; exact bt_at k (by omega)
      obtain ⟨r0, r1, _, _⟩ := rt_all n n1 k hk
      rw [← hr.out] at r0 r1
      have b0 : 1 ≤ b := by rw [hbk]; exact (Ma.pow_bd (31 - k) 31 (by omega)).1
      have b1 : b ≤ 2147483648 := by rw [hbk]; exact (Ma.pow_bd (31 - k) 31 (by omega)).2
      have hs : Hid (rt n (k + 1) = if (r + b) * (r + b) ≤ n then r + b else r) := by rw [hr.out, hb.out]; exact Lib.hid rfl
      have hb' : Hid (b / 2 = bt (k + 1)) := by rw [hb.out]; exact Lib.hid (bt_succ k).symm
      have q0 := sq_nn (r + b)
      clear hbk
      by_cases hc : (r + b) * (r + b) ≤ n
      · have hm : r + b ≤ 3037000499 := by
          have h1 : r + b ≤ 3037000500 := sq_le_of (by omega) (Int.le_trans hc (by omega)) (by decide)
          have h2 : r + b ≠ 3037000500 := fun hh => by rw [hh] at hc; omega
          omega
        have hs' : Hid (r + b = rt n (k + 1)) := Lib.hid (by rw [hs.out, if_pos hc])
        clear hs
        have d1 : decide (r + b ≤ 3037000499) = true := decide_eq_true hm
        have d2 : decide ((r + b) * (r + b) ≤ n) = true := decide_eq_true hc
        have q1 : (r + b) * (r + b) ≤ 9223372036854775807 := by omega
        go_wp2
        go_round
        case rel => exact ⟨k + 1, by omega, _, _, rfl, rfl, hs', hb'⟩
        case measure => simp [intOf]; omega
      · have hs' : Hid (r = rt n (k + 1)) := Lib.hid (by rw [hs.out, if_neg hc])
        clear hs
        by_cases hm : r + b ≤ 3037000499
        · have q1 : (r + b) * (r + b) ≤ 3037000499 * 3037000499 := Int.mul_le_mul hm hm (by omega) (by decide)
          have d1 : decide (r + b ≤ 3037000499) = true := decide_eq_true hm
          have d2 : decide ((r + b) * (r + b) ≤ n) = false := decide_eq_false hc
          go_wp2
          go_round
          case rel => exact ⟨k + 1, by omega, _, _, rfl, rfl, hs', hb'⟩
          case measure => simp [intOf]; omega
        · have d1 : decide (r + b ≤ 3037000499) = false := decide_eq_false hm
          clear hc q0
          go_wp2
          go_round
          case rel => exact ⟨k + 1, by omega, _, _, rfl, rfl, hs', hb'⟩
          case measure => simp [intOf]; omega
    · obtain rfl : k = 32 := by omega
      obtain rfl : b = 0 := by rw [hb.out]; exact bt_end
      go_wp2
      go_ret
      exact ⟨ret1 hr.out, rfl⟩
theorem rceil_all (n : Int) (w : World) (n1 : n ≤ 9223372036854775807) :
    Calls Try.prog 85 #[.int .i64 n] w fun e w' => e = .returned (.int .i64 (ce n)) ∧ w' = w := by
  obtain ⟨r0, r1, q0, q1⟩ := rt_all n n1 32 (by omega)
  have F := Lib.hid fun w => rfloor_all n w n1
  have hc : Hid (ce n = if rt n 32 * rt n 32 < n then rt n 32 + 1 else rt n 32) := Lib.hid rfl
  generalize rt n 32 = r at *
  by_cases hq : r * r < n
  · have he : Hid (ce n = r + 1) := Lib.hid (by rw [hc.out, if_pos hq])
    rw [he.out]
    clear he hc
    go_enter Try.func85, Try.ntmps85
    go_wp2_with (go_at_call 88; with_reducible refine (F.out _).mono ?_; rintro e w1 ⟨rfl, rfl⟩)
    go_ret
    exact ⟨rfl, rfl⟩
  · have he : Hid (ce n = r) := Lib.hid (by rw [hc.out, if_neg hq])
    rw [he.out]
    have hq' : n ≤ r * r := by omega
    clear he hc hq
    go_enter Try.func85, Try.ntmps85
    go_wp2_with (go_at_call 88; with_reducible refine (F.out _).mono ?_; rintro e w1 ⟨rfl, rfl⟩)
    go_ret
    exact ⟨rfl, rfl⟩
end Root
end Go.Proofs.Ytldgihlhioeipaa

/- The order of positions (what small seats can fill). -/
namespace Go.Proofs.Ytldgihlhioeipaa
open Go.RowKit
namespace Geo
def cmpI (x y : Int) : Int := if x < y then -1 else if y < x then 1 else 0
theorem cmpI_cases (x y : Int) : (x < y ∧ cmpI x y = -1) ∨ (y < x ∧ cmpI x y = 1) ∨ (x = y ∧ cmpI x y = 0) := by
  unfold cmpI
  by_cases h : x < y
  · exact .inl ⟨h, if_pos h⟩
  · by_cases h2 : y < x
    · exact .inr (.inl ⟨h2, by rw [if_neg h, if_pos h2]⟩)
    · exact .inr (.inr ⟨by omega, by rw [if_neg h, if_neg h2]⟩)
def cmp3 (x y z : Int) : Int := if x = 0 then (if y = 0 then z else y) else x
end Geo
end Go.Proofs.Ytldgihlhioeipaa

/- The order of any positions. -/
namespace Go.Proofs.Ytldgihlhioeipaa
open Go.RowKit
namespace Geo
end Geo
end Go.Proofs.Ytldgihlhioeipaa
