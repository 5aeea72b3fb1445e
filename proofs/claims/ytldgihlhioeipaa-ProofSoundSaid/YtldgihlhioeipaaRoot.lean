/- Contracts of geometry.Floor and geometry.Ceil: roots, bit by bit. -/
import Derived.Test.YtldgihlhioeipaaKeep
namespace Go.Proofs.Ytldgihlhioeipaa
open Go.RowKit
namespace Root
/-- The bit of round k. -/
def bt (k : Nat) : Int := 2147483648 / 2 ^ k
theorem bt_zero : bt 0 = 2147483648 := by decide
theorem bt_succ (k : Nat) : bt (k + 1) = bt k / 2 := by
  unfold bt
  rw [Int.pow_succ, ← Int.ediv_ediv_of_nonneg (Int.le_of_lt (Int.pow_pos (by decide)))]
theorem bt_at (k : Nat) (h : k ≤ 31) : bt k = 2 ^ (31 - k) := by
  unfold bt
  have e : (2147483648 : Int) = 2 ^ (31 - k) * 2 ^ k := by rw [← Int.pow_add, show 31 - k + k = 31 by omega]; rfl
  rw [e, Int.mul_ediv_cancel _ (Int.ne_of_gt (Int.pow_pos (by decide)))]
theorem bt_end : bt 32 = 0 := by decide
/-- The root behind k rounds. -/
def rt (n : Int) : Nat → Int
  | 0 => 0
  | k + 1 => if (rt n k + bt k) * (rt n k + bt k) ≤ n then rt n k + bt k else rt n k
theorem rt_inv (n : Int) (n0 : 0 ≤ n) (n1 : n ≤ 9223372036854775807) (k : Nat) (hk : k ≤ 32) : ∃ q : Nat, rt n k = q * 2 ^ (32 - k) ∧ rt n k * rt n k ≤ n ∧ n < (rt n k + 2 ^ (32 - k)) * (rt n k + 2 ^ (32 - k)) := by
  induction k with
  | zero => exact ⟨0, by show (0 : Int) = _; simp, by show (0 : Int) * 0 ≤ n; omega, by show n < (0 + 4294967296) * (0 + 4294967296); omega⟩
  | succ k ih =>
    obtain ⟨q, e, a, b⟩ := ih (by omega)
    have hb := bt_at k (by omega)
    have h2 : (2 : Int) ^ (32 - k) = 2 * 2 ^ (31 - k) := by rw [show 32 - k = (31 - k) + 1 by omega, Int.pow_succ, Int.mul_comm]
    have h3 : 32 - (k + 1) = 31 - k := by omega
    rw [h3]
    rw [h2] at e b
    rw [show rt n (k + 1) = if (rt n k + bt k) * (rt n k + bt k) ≤ n then rt n k + bt k else rt n k from rfl, hb]
    generalize (2 : Int) ^ (31 - k) = B at *
    generalize rt n k = r at *
    by_cases hc : (r + B) * (r + B) ≤ n
    · rw [if_pos hc]
      refine ⟨2 * q + 1, ?_, hc, ?_⟩
      · rw [e]; simp only [Int.natCast_add, Int.natCast_mul, Int.add_mul, Int.mul_assoc, Int.mul_left_comm]
        simp
      · rw [show r + B + B = r + 2 * B by omega]; exact b
    · rw [if_neg hc]
      refine ⟨2 * q, ?_, a, by omega⟩
      rw [e]; simp only [Int.natCast_mul, Int.mul_assoc, Int.mul_left_comm]; rfl
theorem sq_le_of {a b : Int} (ha : 0 ≤ a) (h : a * a ≤ b * b) (hb : 0 ≤ b) : a ≤ b := by
  by_cases hab : a ≤ b
  · exact hab
  · have h1 : (b + 1) * (b + 1) ≤ a * a := Int.mul_le_mul (by omega) (by omega) (by omega) ha
    have h2 : (b + 1) * (b + 1) = b * b + 2 * b + 1 := by rw [Int.add_mul, Int.mul_add]; omega
    omega
theorem ret1 {k : IntKind} {a b : Int} (h : a = b) : Ending.returned (.int k a) = .returned (.int k b) := by rw [h]
theorem or_add (q : Nat) (B : Int) (j : Nat) (hB : B = 2 ^ j) (hr : (q : Int) * (2 * B) ≤ 4294967296) (hj : j ≤ 31) : bits .or .i64 (q * (2 * B)) B = q * (2 * B) + B := by
  have hb : B = ((2 ^ j : Nat) : Int) := by rw [hB]; simp
  have p : (2 : Nat) ^ j ≤ 2 ^ 31 := Nat.pow_le_pow_right (by decide) hj
  have e : (q : Int) * (2 * B) = ((2 ^ (j + 1) * q : Nat) : Int) := by
    rw [hb, Nat.pow_succ]; simp only [Int.natCast_mul]
    rw [Int.mul_comm, Int.mul_comm 2]; rfl
  have l : 2 ^ (j + 1) * q ≤ 4294967296 := by rw [e] at hr; omega
  have h := Ma.or_nat (2 ^ (j + 1) * q) (2 ^ j) (by omega) (by omega)
  rw [← Nat.two_pow_add_eq_or_of_lt (i := j + 1) (Nat.pow_lt_pow_right (by decide) (by omega)) q] at h
  rw [e, hb, h]; simp
set_option maxHeartbeats 1000000 in
theorem floor_any (n : Int) (w : World) (n0 : 0 ≤ n) (n1 : n ≤ 4611686018427387904) :
    Calls Try.prog 96 #[.int .i64 n] w fun e w' => e = .returned (.int .i64 (rt n 32)) ∧ w' = w := by
  have hd : decide (n < 0) = false := by simp; omega
  go_enter Try.func96, Try.ntmps96
  go_wp2
  go_loop [3, 4] (fun u v => ∃ k : Nat, k ≤ 32 ∧ ∃ r b : Int, u = .int .i64 r ∧ v = .int .i64 b ∧ Hid (r = rt n k) ∧ Hid (b = bt k)) (fun _ v => (intOf v).toNat)
  case atStart => exact ⟨0, by omega, 0, _, rfl, rfl, Lib.hid rfl, Lib.hid bt_zero.symm⟩
  case round =>
    obtain ⟨k, hk, r, b, rfl, rfl, hr, hb⟩ := hrel
    by_cases hlt : k < 32
    · have hbk : b = 2 ^ (31 - k) := by rw [hb.out]; exact bt_at k (by omega)
      obtain ⟨q, e, s, _⟩ := rt_inv n n0 (by omega) k hk
      rw [← hr.out] at e s
      have h2 : (2 : Int) ^ (32 - k) = 2 * b := by rw [hbk, show 32 - k = (31 - k) + 1 by omega, Int.pow_succ, Int.mul_comm]
      rw [h2] at e
      have b0 : 1 ≤ b := by rw [hbk]; exact (Ma.pow_bd (31 - k) 31 (by omega)).1
      have b1 : b ≤ 2147483648 := by rw [hbk]; exact (Ma.pow_bd (31 - k) 31 (by omega)).2
      have r0 : 0 ≤ r := by rw [e]; exact Int.mul_nonneg (by omega) (by omega)
      have r1 : r ≤ 2147483648 := sq_le_of r0 (Int.le_trans s (by omega)) (by decide)
      have hor : bits .or .i64 r b = r + b := by
        have := or_add q b (31 - k) hbk (by rw [← e]; omega) (by omega)
        rwa [← e] at this
      have hs : Hid (rt n (k + 1) = if (r + b) * (r + b) ≤ n then r + b else r) := by rw [hr.out, hb.out]; exact Lib.hid rfl
      have hb' : Hid (b / 2 = bt (k + 1)) := by rw [hb.out]; exact Lib.hid (bt_succ k).symm
      clear e h2 hbk s
      by_cases hc : (r + b) * (r + b) ≤ n
      · have hq : r + b ≤ n / (r + b) := (Int.le_ediv_iff_mul_le (by omega)).2 hc
        have hs' : Hid (r + b = rt n (k + 1)) := Lib.hid (by rw [hs.out, if_pos hc])
        clear hc hs
        go_wp2
        go_round
        case rel => exact ⟨k + 1, by omega, _, _, rfl, rfl, hs', hb'⟩
        case measure => simp [intOf]; omega
      · have hq : n / (r + b) < r + b := (Int.ediv_lt_iff_lt_mul (by omega)).2 (by omega)
        have hs' : Hid (r = rt n (k + 1)) := Lib.hid (by rw [hs.out, if_neg hc])
        clear hc hs
        go_wp2
        go_round
        case rel => exact ⟨k + 1, by omega, _, _, rfl, rfl, hs', hb'⟩
        case measure => simp [intOf]; omega
    · obtain rfl : k = 32 := by omega
      obtain rfl : b = 0 := by rw [hb.out]; exact bt_end
      go_wp2
      go_ret
      exact ⟨ret1 hr.out, rfl⟩
/-- What Floor is. -/
theorem rt_spec (n : Int) (n0 : 0 ≤ n) (n1 : n ≤ 4611686018427387904) : 0 ≤ rt n 32 ∧ rt n 32 ≤ 2147483648 ∧ rt n 32 * rt n 32 ≤ n ∧ n < (rt n 32 + 1) * (rt n 32 + 1) := by
  obtain ⟨q, e, a, b⟩ := rt_inv n n0 (by omega) 32 (by omega)
  have r0 : 0 ≤ rt n 32 := by rw [e]; exact Int.mul_nonneg (by omega) (by decide)
  exact ⟨r0, sq_le_of r0 (Int.le_trans a (by omega)) (by decide), a, b⟩
def ce (n : Int) : Int := if rt n 32 * rt n 32 < n then rt n 32 + 1 else rt n 32
theorem ceil_any (n : Int) (w : World) (n0 : 0 ≤ n) (n1 : n ≤ 4611686018427387904) :
    Calls Try.prog 93 #[.int .i64 n] w fun e w' => e = .returned (.int .i64 (ce n)) ∧ w' = w := by
  obtain ⟨r0, r1, s0, s1⟩ := rt_spec n n0 n1
  have F := Lib.hid fun w => floor_any n w n0 n1
  have hc : Hid (ce n = if rt n 32 * rt n 32 < n then rt n 32 + 1 else rt n 32) := Lib.hid rfl
  have q0 : 0 ≤ rt n 32 * rt n 32 := Int.mul_nonneg r0 r0
  generalize rt n 32 = r at *
  by_cases hq : r * r < n
  · have he : Hid (ce n = r + 1) := Lib.hid (by rw [hc.out, if_pos hq])
    rw [he.out]
    have hn : 0 < n := by omega
    clear he hc s1
    go_enter Try.func93, Try.ntmps93
    go_wp2_with (go_at_call 96; with_reducible refine (F.out _).mono ?_; rintro e w1 ⟨rfl, rfl⟩)
    go_ret
    exact ⟨rfl, rfl⟩
  · have he : Hid (ce n = r) := Lib.hid (by rw [hc.out, if_neg hq])
    rw [he.out]
    have hq' : n ≤ r * r := by omega
    clear he hc s1 hq
    by_cases hn : 0 < n
    · go_enter Try.func93, Try.ntmps93
      go_wp2_with (go_at_call 96; with_reducible refine (F.out _).mono ?_; rintro e w1 ⟨rfl, rfl⟩)
      go_ret
      exact ⟨rfl, rfl⟩
    · obtain rfl : n = 0 := by omega
      go_enter Try.func93, Try.ntmps93
      go_wp2_with (go_at_call 96; with_reducible refine (F.out _).mono ?_; rintro e w1 ⟨rfl, rfl⟩)
      go_ret
      exact ⟨rfl, rfl⟩
end Root
end Go.Proofs.Ytldgihlhioeipaa
