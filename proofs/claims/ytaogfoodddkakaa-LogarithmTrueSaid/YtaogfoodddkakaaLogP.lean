/- The powers of a number that enclose its logarithm: plain numbers. -/
import Derived.Test.YtaogfoodddkakaaLogM
namespace Go.Proofs.Ytaogfoodddkakaa
open Go.RowKit
namespace Log
/-- Mantissa and digits behind k steps, over natural numbers. -/
def dgn : Nat → Nat → Nat × Nat
  | 0, m => (m, 0)
  | k + 1, m =>
    let p := dgn k m
    if p.1 * p.1 / 1073741824 < 2147483648 then (p.1 * p.1 / 1073741824, p.2 * 2) else (p.1 * p.1 / 1073741824 / 2, p.2 * 2 + 1)
theorem dgn_succ (k m : Nat) : dgn (k + 1) m = if (dgn k m).1 * (dgn k m).1 / 1073741824 < 2147483648 then ((dgn k m).1 * (dgn k m).1 / 1073741824, (dgn k m).2 * 2) else ((dgn k m).1 * (dgn k m).1 / 1073741824 / 2, (dgn k m).2 * 2 + 1) := rfl
theorem dg_succ (k : Nat) (m : Int) : dg (k + 1) m = (stepM (dg k m).1, stepD (dg k m).1 (dg k m).2) := rfl
theorem step_cast (x y : Nat) : (stepM (x : Int), stepD (x : Int) (y : Int)) = (((if x * x / 1073741824 < 2147483648 then (x * x / 1073741824, y * 2) else (x * x / 1073741824 / 2, y * 2 + 1)).1 : Int), ((if x * x / 1073741824 < 2147483648 then (x * x / 1073741824, y * 2) else (x * x / 1073741824 / 2, y * 2 + 1)).2 : Int)) := by
  have e : (x : Int) * x / 1073741824 = ((x * x / 1073741824 : Nat) : Int) := by
    rw [← Int.natCast_mul]; exact (Int.natCast_ediv _ _).symm
  unfold stepM stepD
  rw [e]
  generalize x * x / 1073741824 = q
  by_cases h : q < 2147483648
  · have h' : (q : Int) < 2147483648 := by omega
    rw [if_pos h', if_pos h', if_pos h]; simp
  · have h' : ¬ (q : Int) < 2147483648 := by omega
    rw [if_neg h', if_neg h', if_neg h]; simp
theorem dg_cast (k m : Nat) : dg k (m : Int) = (((dgn k m).1 : Int), ((dgn k m).2 : Int)) := by
  induction k with
  | zero => rfl
  | succ k ih =>
    rw [dg_succ, ih, dgn_succ]
    exact step_cast _ _
def ex : Nat → Nat
  | 0 => 0
  | k + 1 => 2 * ex k + 1
theorem sq_le {a b : Nat} (h : a ≤ b) : a * a ≤ b * b := Nat.mul_le_mul h h
theorem pow_twice (x p : Nat) : x ^ (2 * p) = x ^ p * x ^ p := by rw [Nat.two_mul, Nat.pow_add]
theorem pow_odd (x p : Nat) : x ^ (2 * p + 1) = x ^ p * x ^ p * x := by rw [Nat.pow_succ, pow_twice]
theorem pow_join (x a b c : Nat) (h : a + b = c) : x ^ a * x ^ b = x ^ c := by rw [← Nat.pow_add, h]
theorem step_core (B x y X b m' : Nat) (hq : m' = x * x / B / b) (hB : 0 < B) (hb : 0 < b) (hge : B ≤ m') (e : Nat) (hB1 : X * X ≤ (x * y * (B + 1) ^ e) * (x * y * (B + 1) ^ e)) (hB0 : (x * y * B ^ e) * (x * y * B ^ e) ≤ X * X) :
    m' * (y * y * b) * B ^ (2 * e + 1) ≤ X * X ∧ X * X ≤ m' * (y * y * b) * (B + 1) ^ (2 * e + 1) := by
  have h1 : m' * (B * b) ≤ x * x := by rw [hq, Nat.div_div_eq_div_mul]; exact Nat.div_mul_le_self _ _
  have h2 : x * x < (m' + 1) * (B * b) := by
    have := Nat.lt_mul_div_succ (x * x) (Nat.mul_pos hB hb)
    rw [hq, Nat.div_div_eq_div_mul]
    rwa [Nat.mul_comm (B * b)] at this
  have h3 : (m' + 1) * (B * b) ≤ m' * ((B + 1) * b) := by
    have : (m' + 1) * B ≤ m' * (B + 1) := by rw [Nat.add_mul, Nat.mul_add]; omega
    have := Nat.mul_le_mul_right b this
    rwa [Nat.mul_assoc, Nat.mul_assoc] at this
  constructor
  · refine Nat.le_trans ?_ hB0
    rw [pow_odd]
    have e1 : m' * (y * y * b) * (B ^ e * B ^ e * B) = (m' * (B * b)) * (y * y * (B ^ e * B ^ e)) := by
      simp only [Nat.mul_assoc, Nat.mul_comm, Nat.mul_left_comm]
    have e2 : (x * y * B ^ e) * (x * y * B ^ e) = (x * x) * (y * y * (B ^ e * B ^ e)) := by
      simp only [Nat.mul_assoc, Nat.mul_comm, Nat.mul_left_comm]
    rw [e1, e2]
    exact Nat.mul_le_mul_right _ h1
  · refine Nat.le_trans hB1 ?_
    rw [pow_odd]
    have e1 : m' * (y * y * b) * ((B + 1) ^ e * (B + 1) ^ e * (B + 1)) = (m' * ((B + 1) * b)) * (y * y * ((B + 1) ^ e * (B + 1) ^ e)) := by
      simp only [Nat.mul_assoc, Nat.mul_comm, Nat.mul_left_comm]
    have e2 : (x * y * (B + 1) ^ e) * (x * y * (B + 1) ^ e) = (x * x) * (y * y * ((B + 1) ^ e * (B + 1) ^ e)) := by
      simp only [Nat.mul_assoc, Nat.mul_comm, Nat.mul_left_comm]
    rw [e1, e2]
    exact Nat.mul_le_mul_right _ (Nat.le_trans (Nat.le_of_lt h2) h3)
theorem dgn_bd (k m : Nat) (h0 : 1073741824 ≤ m) (h1 : m < 2147483648) : 1073741824 ≤ (dgn k m).1 ∧ (dgn k m).1 < 2147483648 := by
  have := dg_bd k (m : Int) (by omega) (by omega)
  rw [dg_cast] at this
  exact ⟨by have := this.1; omega, by have := this.2.1; omega⟩
theorem dgn_pow (B k m : Nat) (hB : B = 1073741824) (h0 : B ≤ m) (h1 : m < 2 * B) :
    (dgn k m).1 * 2 ^ (dgn k m).2 * B ^ ex k ≤ m ^ 2 ^ k ∧ m ^ 2 ^ k ≤ (dgn k m).1 * 2 ^ (dgn k m).2 * (B + 1) ^ ex k := by
  induction k with
  | zero => simp [dgn, ex]
  | succ k ih =>
    have hb := dgn_bd (k + 1) m (by omega) (by omega)
    obtain ⟨u, v⟩ := ih
    have e : m ^ 2 ^ (k + 1) = m ^ 2 ^ k * m ^ 2 ^ k := by rw [Nat.pow_succ, Nat.mul_comm, pow_twice]
    rw [e]
    rw [dgn_succ] at hb ⊢
    clear e
    generalize (dgn k m).1 = x at *
    generalize (dgn k m).2 = d at *
    generalize m ^ 2 ^ k = X at *
    rw [show ex (k + 1) = 2 * ex k + 1 from rfl]
    generalize ex k = f at *
    by_cases h : x * x / 1073741824 < 2147483648
    · rw [if_pos h] at hb ⊢
      have := step_core B x (2 ^ d) X 1 (x * x / 1073741824) (by rw [Nat.div_one, hB]) (by omega) (by decide) (by omega) f (sq_le v) (sq_le u)
      rw [Nat.mul_one, ← pow_twice, Nat.mul_comm 2 d] at this
      exact this
    · rw [if_neg h] at hb ⊢
      have := step_core B x (2 ^ d) X 2 (x * x / 1073741824 / 2) (by rw [hB]) (by omega) (by decide) (by omega) f (sq_le v) (sq_le u)
      rw [← pow_odd, Nat.mul_comm 2 d] at this
      exact this
theorem mant_pow (B m : Nat) (hB : B = 1073741824) (h0 : B ≤ m) (h1 : m < 2 * B) :
    2 ^ (dgn 8 m).2 * B ^ 256 ≤ m ^ 256 ∧ m ^ 256 < 2 ^ ((dgn 8 m).2 + 1) * (B * (B + 1) ^ 255) := by
  obtain ⟨u, v⟩ := dgn_pow B 8 m hB h0 h1
  obtain ⟨a, b⟩ := dgn_bd 8 m (by omega) (by omega)
  have e8 : ex 8 = 255 := rfl
  rw [e8] at u v
  rw [show 2 ^ 8 = 256 from rfl] at u v
  generalize (dgn 8 m).1 = x at *
  generalize (dgn 8 m).2 = d at *
  constructor
  · refine Nat.le_trans ?_ u
    rw [show B ^ 256 = B ^ 255 * B from Nat.pow_succ B 255]
    have : 2 ^ d * (B ^ 255 * B) = B * (2 ^ d * B ^ 255) := by
      simp only [Nat.mul_comm, Nat.mul_left_comm]
    rw [this, Nat.mul_assoc]
    exact Nat.mul_le_mul_right _ (by omega)
  · refine Nat.lt_of_le_of_lt v ?_
    have : 2 ^ (d + 1) * (B * (B + 1) ^ 255) = (2 * B) * (2 ^ d * (B + 1) ^ 255) := by
      rw [Nat.pow_succ]
      simp only [Nat.mul_assoc, Nat.mul_comm, Nat.mul_left_comm]
    rw [this, Nat.mul_assoc]
    exact Nat.mul_lt_mul_of_pos_right (by omega) (Nat.mul_pos (Nat.two_pow_pos d) (Nat.pow_pos (by omega)))
theorem eps255 : (1073741824 + 1) ^ 255 ≤ 2 * 1073741824 ^ 255 := by decide +kernel
theorem eps511 : (1073741824 + 1) ^ 511 ≤ 2 * 1073741824 ^ 511 := by decide +kernel
theorem eps (B E : Nat) (hB : B = 1073741824) (hE : E = 511) : (B + 1) ^ 255 ≤ 2 * B ^ 255 ∧ (B + 1) ^ E ≤ 2 * B ^ E := by rw [hB, hE]; exact ⟨eps255, eps511⟩
theorem lt_pow {a b : Nat} (h : a < b) (n : Nat) (hn : n ≠ 0) : a ^ n < b ^ n := Nat.pow_lt_pow_left h hn
/-- The 256th power of a number lies from 2 to the power of its logarithm up to, and without, 2 to the power of 2 more. -/
theorem log_pow (B N k : Nat) (Y : Int) (hB : B = 1073741824) (hk : k ≤ 61) (lo : 2 ^ k ≤ N) (hi : N < 2 ^ (k + 1)) (hy : Y = (dg 8 (mant N k)).2) :
    ∃ D : Nat, Y = D ∧ 2 ^ (256 * k + D) ≤ N ^ 256 ∧ N ^ 256 < 2 ^ (256 * k + D + 2) := by
  have hB30 : 2 ^ 30 = B := by rw [hB]
  obtain ⟨E, hE⟩ : ∃ E, E = 511 := ⟨_, rfl⟩
  obtain ⟨e255, e511⟩ := eps B E hB hE
  by_cases hc : k ≤ 30
  · have hm : mant (N : Int) k = ((N * 2 ^ (30 - k) : Nat) : Int) := by unfold mant; rw [if_pos hc]; simp
    rw [hm, dg_cast] at hy
    have hP : 2 ^ k * 2 ^ (30 - k) = B := by rw [← Nat.pow_add, show k + (30 - k) = 30 by omega, hB30]
    have hp : 0 < 2 ^ (30 - k) := Nat.two_pow_pos _
    have m0 : B ≤ N * 2 ^ (30 - k) := by rw [← hP]; exact Nat.mul_le_mul_right _ lo
    have m1 : N * 2 ^ (30 - k) < 2 * B := by
      have := Nat.mul_lt_mul_of_pos_right hi hp
      rw [Nat.pow_succ, Nat.mul_comm (2 ^ k), Nat.mul_assoc, hP] at this; exact this
    obtain ⟨u, v⟩ := mant_pow B _ hB m0 m1
    generalize (dgn 8 (N * 2 ^ (30 - k))).2 = D at *
    refine ⟨D, hy, ?_, ?_⟩
    · rw [Nat.mul_pow] at u
      have hP2 : B ^ 256 = 2 ^ (256 * k) * (2 ^ (30 - k)) ^ 256 := by
        rw [← hP, Nat.mul_pow, ← Nat.pow_mul, Nat.mul_comm k]
      rw [hP2, ← Nat.mul_assoc] at u
      have := Nat.le_of_mul_le_mul_right u (Nat.pow_pos hp)
      rwa [← Nat.pow_add, Nat.add_comm] at this
    · rw [Nat.mul_pow] at v
      have hP2 : B ^ 256 = 2 ^ (256 * k) * (2 ^ (30 - k)) ^ 256 := by
        rw [← hP, Nat.mul_pow, ← Nat.pow_mul, Nat.mul_comm k]
      have w : 2 ^ (D + 1) * (B * (B + 1) ^ 255) ≤ 2 ^ (D + 2) * B ^ 256 := by
        have a1 : B * (B + 1) ^ 255 ≤ B * (2 * B ^ 255) := Nat.mul_le_mul_left _ e255
        have a2 : B * (2 * B ^ 255) = 2 * B ^ 256 := by
          rw [show B ^ 256 = B ^ 255 * B from Nat.pow_succ B 255]
          generalize B ^ 255 = Z
          rw [Nat.mul_left_comm, Nat.mul_comm B]
        rw [a2] at a1
        have := Nat.mul_le_mul_left (2 ^ (D + 1)) a1
        rw [Nat.pow_succ 2 (D + 1), Nat.mul_assoc]
        exact this
      have v2 := Nat.lt_of_lt_of_le v w
      rw [hP2, ← Nat.mul_assoc] at v2
      have := Nat.lt_of_mul_lt_mul_right v2
      rwa [← Nat.pow_add, show D + 2 + 256 * k = 256 * k + D + 2 by omega] at this
  · have hm : mant (N : Int) k = ((N / 2 ^ (k - 30) : Nat) : Int) := by unfold mant; rw [if_neg hc]; simp
    rw [hm, dg_cast] at hy
    have hp : 0 < 2 ^ (k - 30) := Nat.two_pow_pos _
    have hP : 2 ^ k = B * 2 ^ (k - 30) := by rw [← hB30, ← Nat.pow_add, show 30 + (k - 30) = k by omega]
    have m0 : B ≤ N / 2 ^ (k - 30) := (Nat.le_div_iff_mul_le hp).2 (by rw [← hP]; exact lo)
    have m1 : N / 2 ^ (k - 30) < 2 * B := (Nat.div_lt_iff_lt_mul hp).2 (by rw [Nat.pow_succ, Nat.mul_comm (2 ^ k), hP, ← Nat.mul_assoc] at hi; exact hi)
    obtain ⟨u, v⟩ := mant_pow B _ hB m0 m1
    have n0 : N / 2 ^ (k - 30) * 2 ^ (k - 30) ≤ N := Nat.div_mul_le_self _ _
    have n1 : N < (N / 2 ^ (k - 30) + 1) * 2 ^ (k - 30) := by
      have := Nat.lt_mul_div_succ N hp
      rwa [Nat.mul_comm (2 ^ (k - 30))] at this
    generalize (dgn 8 (N / 2 ^ (k - 30))).2 = D at *
    generalize N / 2 ^ (k - 30) = m at *
    have hP2 : 2 ^ (256 * k) = B ^ 256 * (2 ^ (k - 30)) ^ 256 := by
      rw [← Nat.mul_pow, ← hP, ← Nat.pow_mul, Nat.mul_comm k]
    refine ⟨D, hy, ?_, ?_⟩
    · rw [Nat.pow_add, hP2, Nat.mul_comm, ← Nat.mul_assoc]
      refine Nat.le_trans (Nat.mul_le_mul_right _ u) ?_
      rw [← Nat.mul_pow]
      exact Nat.pow_le_pow_left n0 256
    · have q0 := lt_pow n1 256 (by decide)
      rw [Nat.mul_pow] at q0
      have q1 : (m + 1) * B ≤ m * (B + 1) := by rw [Nat.add_mul, Nat.mul_add]; omega
      have q2 := Nat.pow_le_pow_left q1 256
      rw [Nat.mul_pow, Nat.mul_pow] at q2
      have hB0 : 0 < B := by omega
      -- (m + 1)^256 B^256 <= m^256 (B + 1)^256 < 2^(D + 1) B (B + 1)^511 <= 2^(D + 2) B^512
      have q3 : (m + 1) ^ 256 * B ^ 256 < 2 ^ (D + 2) * B ^ 256 * B ^ 256 := by
        refine Nat.lt_of_le_of_lt q2 ?_
        refine Nat.lt_of_lt_of_le (Nat.mul_lt_mul_of_pos_right v (Nat.pow_pos (by omega))) ?_
        have a0 : (B + 1) ^ 255 * (B + 1) ^ 256 = (B + 1) ^ E := pow_join (B + 1) 255 256 E hE.symm
        have a3 : B ^ E * B = B ^ 256 * B ^ 256 := by rw [pow_join B 256 256 (E + 1) (by omega), Nat.pow_succ]
        have a1 : 2 ^ (D + 1) * (B * (B + 1) ^ 255) * (B + 1) ^ 256 = 2 ^ (D + 1) * B * (B + 1) ^ E := by
          rw [← a0]; simp only [Nat.mul_assoc]
        rw [a1]
        refine Nat.le_trans (Nat.mul_le_mul_left _ e511) ?_
        have a2 : 2 ^ (D + 1) * B * (2 * B ^ E) = 2 ^ (D + 1) * 2 * (B ^ E * B) := by
          generalize B ^ E = Z
          simp only [Nat.mul_assoc, Nat.mul_comm, Nat.mul_left_comm]
        rw [a2, a3, ← Nat.pow_succ, Nat.mul_assoc]
        exact Nat.le_refl _
      clear e511 e255
      have q4 := Nat.lt_of_mul_lt_mul_right q3
      refine Nat.lt_trans q0 (Nat.lt_of_lt_of_le (Nat.mul_lt_mul_of_pos_right q4 (Nat.pow_pos hp)) ?_)
      rw [Nat.mul_assoc, ← hP2, ← Nat.pow_add, show D + 2 + 256 * k = 256 * k + D + 2 by omega]
      exact Nat.le_refl _
theorem lg_pow (n : Int) (k : Nat) (Y : Int) (h : LG n k Y) : ∃ N L : Nat, n = N ∧ 256 * (k : Int) + Y = L ∧ 2 ^ L ≤ N ^ 256 ∧ N ^ 256 < 2 ^ (L + 2) := by
  obtain ⟨k1, lo, hi, y0, y1, hy, _⟩ := h
  have n0 : 0 ≤ n := by have := (Ma.pow_bd k 61 k1).1; omega
  obtain ⟨N, rfl⟩ := Int.eq_ofNat_of_zero_le n0
  have lo' : 2 ^ k ≤ N := by exact_mod_cast lo
  have hi' : N < 2 ^ (k + 1) := by exact_mod_cast hi
  obtain ⟨D, rfl, a, b⟩ := log_pow 1073741824 N k Y rfl k1 lo' hi' hy
  exact ⟨N, 256 * k + D, rfl, by simp, a, b⟩
end Log
end Go.Proofs.Ytaogfoodddkakaa
