/- Contracts of package logarithm: the digits behind the point, and Log. -/
import Derived.Test.YtkfjcanipmhanaaRows
import Derived.Test.YtkfjcanipmhanaaMath
import Derived.Test.YtkfjcanipmhanaaBuf
import Derived.ProofKit
import Derived.Outline
import Derived.Handy
import Derived.WalkSpells
import Derived.WalkLawsBesides
import Derived.Deep.QuietTactic
import Derived.BigQuiet
import Derived.Lib.Hide
import Derived.Laws.Tables
import Derived.Laws.Rows
namespace Go.Proofs.Ytkfjcanipmhanaa
open Go.RowKit
namespace Log
def stepM (m : Int) : Int := if m * m / 1073741824 < 2147483648 then m * m / 1073741824 else m * m / 1073741824 / 2
def stepD (m d : Int) : Int := if m * m / 1073741824 < 2147483648 then d * 2 else d * 2 + 1
/-- Mantissa and digits behind k steps. -/
def dg : Nat → Int → Int × Int
  | 0, m => (m, 0)
  | k + 1, m => (stepM (dg k m).1, stepD (dg k m).1 (dg k m).2)
theorem sq_bd (m : Int) (h0 : 1073741824 ≤ m) (h1 : m < 2147483648) : 1152921504606846976 ≤ m * m ∧ m * m ≤ 4611686014132420609 := by
  constructor
  · have := Int.mul_le_mul h0 h0 (by omega) (by omega); omega
  · have : m ≤ 2147483647 := by omega
    have := Int.mul_le_mul this this (by omega) (by omega); omega
theorem stepM_bd (m : Int) (h0 : 1073741824 ≤ m) (h1 : m < 2147483648) : 1073741824 ≤ stepM m ∧ stepM m < 2147483648 := by
  obtain ⟨a, b⟩ := sq_bd m h0 h1
  unfold stepM
  split <;> omega
theorem dg_bd (k : Nat) (m : Int) (h0 : 1073741824 ≤ m) (h1 : m < 2147483648) : 1073741824 ≤ (dg k m).1 ∧ (dg k m).1 < 2147483648 ∧ 0 ≤ (dg k m).2 ∧ (dg k m).2 < 2 ^ k := by
  induction k with
  | zero => exact ⟨h0, h1, Int.le_refl 0, (by decide : (0 : Int) < 2 ^ 0)⟩
  | succ k ih =>
    obtain ⟨a, b, c, d⟩ := ih
    obtain ⟨p, q⟩ := stepM_bd _ a b
    refine ⟨p, q, ?_, ?_⟩
    · show 0 ≤ stepD _ _
      unfold stepD; split <;> omega
    · show stepD _ _ < _
      rw [Int.pow_succ]
      unfold stepD; split <;> omega
theorem ret1 {k : IntKind} {a b : Int} (h : a = b) : Ending.returned (.int k a) = .returned (.int k b) := by rw [h]
set_option maxHeartbeats 1000000 in
theorem digits_any (m : Int) (w : World) (h0 : 1073741824 ≤ m) (h1 : m < 2147483648) :
    Calls Try.prog 21 #[.int .i64 m] w fun e w' => e = .returned (.int .i64 (dg 8 m).2) ∧ w' = w := by
  go_enter Try.func21, Try.ntmps21
  go_wp2
  go_loop [0, 3, 4] (fun u v i => ∃ k : Nat, k ≤ 8 ∧ i = .int .i64 k ∧ ∃ x y : Int, u = .int .i64 x ∧ v = .int .i64 y ∧ Hid (dg k m = (x, y))) (fun _ _ i => (8 - intOf i).toNat)
  case atStart => exact ⟨0, by omega, rfl, m, 0, rfl, rfl, rfl⟩
  case round =>
    obtain ⟨k, hk, rfl, x, y, rfl, rfl, hd⟩ := hrel
    have hb := dg_bd k m h0 h1
    rw [hd.out] at hb
    obtain ⟨a, b, c, d⟩ := hb
    by_cases hlt : k < 8
    · have hp : (2 : Int) ^ k ≤ 2 ^ 7 := (Ma.pow_bd k 7 (by omega)).2
      have d' : y < 128 := by simp only [] at d; omega
      simp only [] at a b c
      obtain ⟨s0, s1⟩ := sq_bd x a b
      have hs : Hid (dg (k + 1) m = (stepM x, stepD x y)) := by
        show dg (k + 1) m = _
        unfold dg; rw [hd.out]
      have hor : Hid (bits .or .i64 (y * 2) 1 = y * 2 + 1) := by
        obtain ⟨Y, rfl⟩ := Int.eq_ofNat_of_zero_le c
        have h := Ma.or_nat (Y * 2) 1 (by omega) (by omega)
        have e : (Y * 2 ||| 1 : Nat) = Y * 2 + 1 := by
          rw [Nat.mul_comm]; exact (Nat.two_pow_add_eq_or_of_lt (i := 1) (by decide) Y).symm
        rw [e] at h
        show _ = _
        exact_mod_cast h
      clear d hp
      by_cases hq : x * x / 1073741824 < 2147483648
      · have hs' : Hid (dg (k + 1) m = (x * x / 1073741824, y * 2)) := by
          rw [hs.out]; unfold stepM stepD; rw [if_pos hq, if_pos hq]; exact Lib.hid rfl
        clear hs hor
        go_wp2
        go_round
        case rel => exact ⟨k + 1, by omega, by go_num, _, _, rfl, rfl, hs'⟩
        case measure => simp [intOf]; omega
      · have hs' : Hid (dg (k + 1) m = (x * x / 1073741824 / 2, bits .or .i64 (y * 2) 1)) := by
          rw [hs.out, hor.out]; unfold stepM stepD; rw [if_neg hq, if_neg hq]; exact Lib.hid rfl
        clear hs hor
        go_wp2
        go_round
        case rel => exact ⟨k + 1, by omega, by go_num, _, _, rfl, rfl, hs'⟩
        case measure => simp [intOf]; omega
    · obtain rfl : k = 8 := by omega
      have hr : Hid ((dg 8 m).2 = y) := by rw [hd.out]; exact Lib.hid rfl
      go_wp2
      go_ret
      exact ⟨ret1 hr.out.symm, rfl⟩
theorem getD_of {α : Type} (l : List α) (i : Nat) (d : α) (h : i < l.length) : l.getD i d = l[i] := by simp [List.getD, h]
/-- The table of the lengths of bytes. -/
def TabSays (k m : Nat) : Prop := ∀ h : m < (⟨#[0, 1, 2, 2, 3, 3, 3, 3, 4, 4, 4, 4, 4, 4, 4, 4, 5, 5, 5, 5, 5, 5, 5, 5, 5, 5, 5, 5, 5, 5, 5, 5, 6, 6, 6, 6, 6, 6, 6, 6, 6, 6, 6, 6, 6, 6, 6, 6, 6, 6, 6, 6, 6, 6, 6, 6, 6, 6, 6, 6, 6, 6, 6, 6, 7, 7, 7, 7, 7, 7, 7, 7, 7, 7, 7, 7, 7, 7, 7, 7, 7, 7, 7, 7, 7, 7, 7, 7, 7, 7, 7, 7, 7, 7, 7, 7, 7, 7, 7, 7, 7, 7, 7, 7, 7, 7, 7, 7, 7, 7, 7, 7, 7, 7, 7, 7, 7, 7, 7, 7, 7, 7, 7, 7, 7, 7, 7, 7, 8, 8, 8, 8, 8, 8, 8, 8, 8, 8, 8, 8, 8, 8, 8, 8, 8, 8, 8, 8, 8, 8, 8, 8, 8, 8, 8, 8, 8, 8, 8, 8, 8, 8, 8, 8, 8, 8, 8, 8, 8, 8, 8, 8, 8, 8, 8, 8, 8, 8, 8, 8, 8, 8, 8, 8, 8, 8, 8, 8, 8, 8, 8, 8, 8, 8, 8, 8, 8, 8, 8, 8, 8, 8, 8, 8, 8, 8, 8, 8, 8, 8, 8, 8, 8, 8, 8, 8, 8, 8, 8, 8, 8, 8, 8, 8, 8, 8, 8, 8, 8, 8, 8, 8, 8, 8, 8, 8, 8, 8, 8, 8, 8, 8, 8, 8, 8, 8, 8, 8, 8, 8, 8, 8, 8, 8, 8, 8]⟩ : ByteArray).size, ((⟨#[0, 1, 2, 2, 3, 3, 3, 3, 4, 4, 4, 4, 4, 4, 4, 4, 5, 5, 5, 5, 5, 5, 5, 5, 5, 5, 5, 5, 5, 5, 5, 5, 6, 6, 6, 6, 6, 6, 6, 6, 6, 6, 6, 6, 6, 6, 6, 6, 6, 6, 6, 6, 6, 6, 6, 6, 6, 6, 6, 6, 6, 6, 6, 6, 7, 7, 7, 7, 7, 7, 7, 7, 7, 7, 7, 7, 7, 7, 7, 7, 7, 7, 7, 7, 7, 7, 7, 7, 7, 7, 7, 7, 7, 7, 7, 7, 7, 7, 7, 7, 7, 7, 7, 7, 7, 7, 7, 7, 7, 7, 7, 7, 7, 7, 7, 7, 7, 7, 7, 7, 7, 7, 7, 7, 7, 7, 7, 7, 8, 8, 8, 8, 8, 8, 8, 8, 8, 8, 8, 8, 8, 8, 8, 8, 8, 8, 8, 8, 8, 8, 8, 8, 8, 8, 8, 8, 8, 8, 8, 8, 8, 8, 8, 8, 8, 8, 8, 8, 8, 8, 8, 8, 8, 8, 8, 8, 8, 8, 8, 8, 8, 8, 8, 8, 8, 8, 8, 8, 8, 8, 8, 8, 8, 8, 8, 8, 8, 8, 8, 8, 8, 8, 8, 8, 8, 8, 8, 8, 8, 8, 8, 8, 8, 8, 8, 8, 8, 8, 8, 8, 8, 8, 8, 8, 8, 8, 8, 8, 8, 8, 8, 8, 8, 8, 8, 8, 8, 8, 8, 8, 8, 8, 8, 8, 8, 8, 8, 8, 8, 8, 8, 8, 8, 8, 8, 8]⟩ : ByteArray)[m]'h).toNat = k + 1
set_option maxRecDepth 100000 in
theorem tab_at (k r : Nat) (hk : k < 8) (hr : r < 2 ^ k) : TabSays k (2 ^ k + r) := by
  intro h
  have key : ∀ k : Fin 8, ∀ r : Fin (2 ^ k.val), ((⟨#[0, 1, 2, 2, 3, 3, 3, 3, 4, 4, 4, 4, 4, 4, 4, 4, 5, 5, 5, 5, 5, 5, 5, 5, 5, 5, 5, 5, 5, 5, 5, 5, 6, 6, 6, 6, 6, 6, 6, 6, 6, 6, 6, 6, 6, 6, 6, 6, 6, 6, 6, 6, 6, 6, 6, 6, 6, 6, 6, 6, 6, 6, 6, 6, 7, 7, 7, 7, 7, 7, 7, 7, 7, 7, 7, 7, 7, 7, 7, 7, 7, 7, 7, 7, 7, 7, 7, 7, 7, 7, 7, 7, 7, 7, 7, 7, 7, 7, 7, 7, 7, 7, 7, 7, 7, 7, 7, 7, 7, 7, 7, 7, 7, 7, 7, 7, 7, 7, 7, 7, 7, 7, 7, 7, 7, 7, 7, 7, 8, 8, 8, 8, 8, 8, 8, 8, 8, 8, 8, 8, 8, 8, 8, 8, 8, 8, 8, 8, 8, 8, 8, 8, 8, 8, 8, 8, 8, 8, 8, 8, 8, 8, 8, 8, 8, 8, 8, 8, 8, 8, 8, 8, 8, 8, 8, 8, 8, 8, 8, 8, 8, 8, 8, 8, 8, 8, 8, 8, 8, 8, 8, 8, 8, 8, 8, 8, 8, 8, 8, 8, 8, 8, 8, 8, 8, 8, 8, 8, 8, 8, 8, 8, 8, 8, 8, 8, 8, 8, 8, 8, 8, 8, 8, 8, 8, 8, 8, 8, 8, 8, 8, 8, 8, 8, 8, 8, 8, 8, 8, 8, 8, 8, 8, 8, 8, 8, 8, 8, 8, 8, 8, 8, 8, 8, 8, 8]⟩ : ByteArray).data.toList.getD (2 ^ k.val + r.val) 0).toNat = k.val + 1 := by decide +kernel
  have := key ⟨k, hk⟩ ⟨r, hr⟩
  have h' : 2 ^ k + r < (⟨#[0, 1, 2, 2, 3, 3, 3, 3, 4, 4, 4, 4, 4, 4, 4, 4, 5, 5, 5, 5, 5, 5, 5, 5, 5, 5, 5, 5, 5, 5, 5, 5, 6, 6, 6, 6, 6, 6, 6, 6, 6, 6, 6, 6, 6, 6, 6, 6, 6, 6, 6, 6, 6, 6, 6, 6, 6, 6, 6, 6, 6, 6, 6, 6, 7, 7, 7, 7, 7, 7, 7, 7, 7, 7, 7, 7, 7, 7, 7, 7, 7, 7, 7, 7, 7, 7, 7, 7, 7, 7, 7, 7, 7, 7, 7, 7, 7, 7, 7, 7, 7, 7, 7, 7, 7, 7, 7, 7, 7, 7, 7, 7, 7, 7, 7, 7, 7, 7, 7, 7, 7, 7, 7, 7, 7, 7, 7, 7, 8, 8, 8, 8, 8, 8, 8, 8, 8, 8, 8, 8, 8, 8, 8, 8, 8, 8, 8, 8, 8, 8, 8, 8, 8, 8, 8, 8, 8, 8, 8, 8, 8, 8, 8, 8, 8, 8, 8, 8, 8, 8, 8, 8, 8, 8, 8, 8, 8, 8, 8, 8, 8, 8, 8, 8, 8, 8, 8, 8, 8, 8, 8, 8, 8, 8, 8, 8, 8, 8, 8, 8, 8, 8, 8, 8, 8, 8, 8, 8, 8, 8, 8, 8, 8, 8, 8, 8, 8, 8, 8, 8, 8, 8, 8, 8, 8, 8, 8, 8, 8, 8, 8, 8, 8, 8, 8, 8, 8, 8, 8, 8, 8, 8, 8, 8, 8, 8, 8, 8, 8, 8, 8, 8, 8, 8, 8, 8]⟩ : ByteArray).data.toList.length := h
  rw [getD_of _ _ _ h'] at this
  exact this
theorem split_pow (x : Int) (k : Nat) (h0 : 2 ^ k ≤ x) (h1 : x < 2 ^ (k + 1)) : ∃ r : Nat, r < 2 ^ k ∧ x = ((2 ^ k + r : Nat) : Int) := by
  have e : ((2 ^ k : Nat) : Int) = (2 : Int) ^ k := by simp
  have e1 : (2 : Int) ^ (k + 1) = 2 * 2 ^ k := by rw [Int.pow_succ, Int.mul_comm]
  refine ⟨(x - 2 ^ k).toNat, ?_, ?_⟩ <;> omega
theorem shr_bd (n : Int) (k j : Nat) (h : j ≤ k) (h0 : 2 ^ k ≤ n) (h1 : n < 2 ^ (k + 1)) : 2 ^ (k - j) ≤ n / 2 ^ j ∧ n / 2 ^ j < 2 ^ (k - j + 1) := by
  obtain ⟨d, rfl⟩ : ∃ d, k = j + d := ⟨k - j, by omega⟩
  have hp : (0 : Int) < 2 ^ j := Int.pow_pos (by decide)
  rw [Nat.add_sub_cancel_left]
  constructor
  · refine (Int.le_ediv_iff_mul_le hp).2 ?_
    rw [Int.mul_comm, ← Int.pow_add]; exact h0
  · refine (Int.ediv_lt_iff_lt_mul hp).2 ?_
    rw [Int.mul_comm, ← Int.pow_add, ← Nat.add_assoc]; exact h1
set_option maxRecDepth 100000 in
theorem len64_0 (n : Int) (k : Nat) (w : World) (hk0 : 0 ≤ k) (hk : k < 8) (h0 : 2 ^ k ≤ n) (h1 : n < 2 ^ (k + 1)) :
    Calls Try.prog 29 #[.int .u64 n] w fun e w' => e = .returned (.int .i64 (k + 1)) ∧ w' = w := by
  obtain ⟨k, rfl⟩ : ∃ d, k = 0 + d := ⟨k - 0, by omega⟩
  obtain ⟨q0, q1⟩ := shr_bd n _ 0 (by omega) h0 h1
  rw [Nat.add_sub_cancel_left] at q0 q1
  have n0 : 1 ≤ n := Int.le_trans (Int.le_trans (by decide : (1 : Int) ≤ 2 ^ 0) (Ma.pow_bd 0 (0 + k) (by omega)).2) h0
  have n1 : n ≤ 255 := by
    have := Int.lt_of_lt_of_le h1 (Int.le_trans (Ma.pow_bd (0 + k + 1) 8 (by omega)).2 (by decide : (2 : Int) ^ 8 ≤ 256))
    omega
  have e : n / 2 ^ 0 = n := by
    show n / 1 = n
    omega
  rw [e] at q0 q1
  clear e h0 h1
  obtain ⟨r, hr, hx⟩ := split_pow _ k q0 q1
  have hp : 2 ^ k ≤ 2 ^ 7 := Nat.pow_le_pow_right (by decide) (by omega)
  have T := tab_at k r (by omega) hr
  have x0 : 0 ≤ n := by omega
  have x1 : n ≤ 255 := by omega
  have hm : Hid ((n).toNat = 2 ^ k + r) := by show (n).toNat = _; omega
  rw [← hm.out] at T
  clear hr hp hx hm q0 q1
  go_enter Try.func29, Try.ntmps29
  go_wp2
  go_ret
  refine ⟨ret1 ?_, rfl⟩
  rw [T]
  rw [IntWalk.wrap64_in ((k + 1 : Nat) : Int) ⟨by omega, by omega⟩]
  rw [IntWalk.wrap64_in _ ⟨by omega, by omega⟩]
  omega
set_option maxRecDepth 100000 in
theorem len64_1 (n : Int) (k : Nat) (w : World) (hk0 : 8 ≤ k) (hk : k < 16) (h0 : 2 ^ k ≤ n) (h1 : n < 2 ^ (k + 1)) :
    Calls Try.prog 29 #[.int .u64 n] w fun e w' => e = .returned (.int .i64 (k + 1)) ∧ w' = w := by
  obtain ⟨k, rfl⟩ : ∃ d, k = 8 + d := ⟨k - 8, by omega⟩
  obtain ⟨q0, q1⟩ := shr_bd n _ 8 (by omega) h0 h1
  rw [Nat.add_sub_cancel_left] at q0 q1
  have n0 : 256 ≤ n := Int.le_trans (Int.le_trans (by decide : (256 : Int) ≤ 2 ^ 8) (Ma.pow_bd 8 (8 + k) (by omega)).2) h0
  have n1 : n ≤ 65535 := by
    have := Int.lt_of_lt_of_le h1 (Int.le_trans (Ma.pow_bd (8 + k + 1) 16 (by omega)).2 (by decide : (2 : Int) ^ 16 ≤ 65536))
    omega
  have e : n / 2 ^ 8 = n / 256 := by
    show n / 256 = n / 256
    omega
  rw [e] at q0 q1
  clear e h0 h1
  obtain ⟨r, hr, hx⟩ := split_pow _ k q0 q1
  have hp : 2 ^ k ≤ 2 ^ 7 := Nat.pow_le_pow_right (by decide) (by omega)
  have T := tab_at k r (by omega) hr
  have x0 : 0 ≤ n / 256 := by omega
  have x1 : n / 256 ≤ 255 := by omega
  have hm : Hid ((n / 256).toNat = 2 ^ k + r) := by show (n / 256).toNat = _; omega
  rw [← hm.out] at T
  clear hr hp hx hm q0 q1
  go_enter Try.func29, Try.ntmps29
  go_wp2
  go_ret
  refine ⟨ret1 ?_, rfl⟩
  rw [T]
  rw [IntWalk.wrap64_in ((k + 1 : Nat) : Int) ⟨by omega, by omega⟩]
  rw [IntWalk.wrap64_in _ ⟨by omega, by omega⟩]
  omega
set_option maxRecDepth 100000 in
theorem len64_2 (n : Int) (k : Nat) (w : World) (hk0 : 16 ≤ k) (hk : k < 24) (h0 : 2 ^ k ≤ n) (h1 : n < 2 ^ (k + 1)) :
    Calls Try.prog 29 #[.int .u64 n] w fun e w' => e = .returned (.int .i64 (k + 1)) ∧ w' = w := by
  obtain ⟨k, rfl⟩ : ∃ d, k = 16 + d := ⟨k - 16, by omega⟩
  obtain ⟨q0, q1⟩ := shr_bd n _ 16 (by omega) h0 h1
  rw [Nat.add_sub_cancel_left] at q0 q1
  have n0 : 65536 ≤ n := Int.le_trans (Int.le_trans (by decide : (65536 : Int) ≤ 2 ^ 16) (Ma.pow_bd 16 (16 + k) (by omega)).2) h0
  have n1 : n ≤ 16777215 := by
    have := Int.lt_of_lt_of_le h1 (Int.le_trans (Ma.pow_bd (16 + k + 1) 24 (by omega)).2 (by decide : (2 : Int) ^ 24 ≤ 16777216))
    omega
  have e : n / 2 ^ 16 = n / 65536 := by
    show n / 65536 = n / 65536
    omega
  rw [e] at q0 q1
  clear e h0 h1
  obtain ⟨r, hr, hx⟩ := split_pow _ k q0 q1
  have hp : 2 ^ k ≤ 2 ^ 7 := Nat.pow_le_pow_right (by decide) (by omega)
  have T := tab_at k r (by omega) hr
  have x0 : 0 ≤ n / 65536 := by omega
  have x1 : n / 65536 ≤ 255 := by omega
  have hm : Hid ((n / 65536).toNat = 2 ^ k + r) := by show (n / 65536).toNat = _; omega
  rw [← hm.out] at T
  clear hr hp hx hm q0 q1
  go_enter Try.func29, Try.ntmps29
  go_wp2
  go_ret
  refine ⟨ret1 ?_, rfl⟩
  rw [T]
  rw [IntWalk.wrap64_in ((k + 1 : Nat) : Int) ⟨by omega, by omega⟩]
  rw [IntWalk.wrap64_in _ ⟨by omega, by omega⟩]
  omega
set_option maxRecDepth 100000 in
theorem len64_3 (n : Int) (k : Nat) (w : World) (hk0 : 24 ≤ k) (hk : k < 32) (h0 : 2 ^ k ≤ n) (h1 : n < 2 ^ (k + 1)) :
    Calls Try.prog 29 #[.int .u64 n] w fun e w' => e = .returned (.int .i64 (k + 1)) ∧ w' = w := by
  obtain ⟨k, rfl⟩ : ∃ d, k = 24 + d := ⟨k - 24, by omega⟩
  obtain ⟨q0, q1⟩ := shr_bd n _ 24 (by omega) h0 h1
  rw [Nat.add_sub_cancel_left] at q0 q1
  have n0 : 16777216 ≤ n := Int.le_trans (Int.le_trans (by decide : (16777216 : Int) ≤ 2 ^ 24) (Ma.pow_bd 24 (24 + k) (by omega)).2) h0
  have n1 : n ≤ 4294967295 := by
    have := Int.lt_of_lt_of_le h1 (Int.le_trans (Ma.pow_bd (24 + k + 1) 32 (by omega)).2 (by decide : (2 : Int) ^ 32 ≤ 4294967296))
    omega
  have e : n / 2 ^ 24 = n / 65536 / 256 := by
    show n / 16777216 = n / 65536 / 256
    omega
  rw [e] at q0 q1
  clear e h0 h1
  obtain ⟨r, hr, hx⟩ := split_pow _ k q0 q1
  have hp : 2 ^ k ≤ 2 ^ 7 := Nat.pow_le_pow_right (by decide) (by omega)
  have T := tab_at k r (by omega) hr
  have x0 : 0 ≤ n / 65536 / 256 := by omega
  have x1 : n / 65536 / 256 ≤ 255 := by omega
  have hm : Hid ((n / 65536 / 256).toNat = 2 ^ k + r) := by show (n / 65536 / 256).toNat = _; omega
  rw [← hm.out] at T
  clear hr hp hx hm q0 q1
  go_enter Try.func29, Try.ntmps29
  go_wp2
  go_ret
  refine ⟨ret1 ?_, rfl⟩
  rw [T]
  rw [IntWalk.wrap64_in ((k + 1 : Nat) : Int) ⟨by omega, by omega⟩]
  rw [IntWalk.wrap64_in _ ⟨by omega, by omega⟩]
  omega
set_option maxRecDepth 100000 in
theorem len64_4 (n : Int) (k : Nat) (w : World) (hk0 : 32 ≤ k) (hk : k < 40) (h0 : 2 ^ k ≤ n) (h1 : n < 2 ^ (k + 1)) :
    Calls Try.prog 29 #[.int .u64 n] w fun e w' => e = .returned (.int .i64 (k + 1)) ∧ w' = w := by
  obtain ⟨k, rfl⟩ : ∃ d, k = 32 + d := ⟨k - 32, by omega⟩
  obtain ⟨q0, q1⟩ := shr_bd n _ 32 (by omega) h0 h1
  rw [Nat.add_sub_cancel_left] at q0 q1
  have n0 : 4294967296 ≤ n := Int.le_trans (Int.le_trans (by decide : (4294967296 : Int) ≤ 2 ^ 32) (Ma.pow_bd 32 (32 + k) (by omega)).2) h0
  have n1 : n ≤ 1099511627775 := by
    have := Int.lt_of_lt_of_le h1 (Int.le_trans (Ma.pow_bd (32 + k + 1) 40 (by omega)).2 (by decide : (2 : Int) ^ 40 ≤ 1099511627776))
    omega
  have e : n / 2 ^ 32 = n / 4294967296 := by
    show n / 4294967296 = n / 4294967296
    omega
  rw [e] at q0 q1
  clear e h0 h1
  obtain ⟨r, hr, hx⟩ := split_pow _ k q0 q1
  have hp : 2 ^ k ≤ 2 ^ 7 := Nat.pow_le_pow_right (by decide) (by omega)
  have T := tab_at k r (by omega) hr
  have x0 : 0 ≤ n / 4294967296 := by omega
  have x1 : n / 4294967296 ≤ 255 := by omega
  have hm : Hid ((n / 4294967296).toNat = 2 ^ k + r) := by show (n / 4294967296).toNat = _; omega
  rw [← hm.out] at T
  clear hr hp hx hm q0 q1
  go_enter Try.func29, Try.ntmps29
  go_wp2
  go_ret
  refine ⟨ret1 ?_, rfl⟩
  rw [T]
  rw [IntWalk.wrap64_in ((k + 1 : Nat) : Int) ⟨by omega, by omega⟩]
  rw [IntWalk.wrap64_in _ ⟨by omega, by omega⟩]
  omega
set_option maxRecDepth 100000 in
theorem len64_5 (n : Int) (k : Nat) (w : World) (hk0 : 40 ≤ k) (hk : k < 48) (h0 : 2 ^ k ≤ n) (h1 : n < 2 ^ (k + 1)) :
    Calls Try.prog 29 #[.int .u64 n] w fun e w' => e = .returned (.int .i64 (k + 1)) ∧ w' = w := by
  obtain ⟨k, rfl⟩ : ∃ d, k = 40 + d := ⟨k - 40, by omega⟩
  obtain ⟨q0, q1⟩ := shr_bd n _ 40 (by omega) h0 h1
  rw [Nat.add_sub_cancel_left] at q0 q1
  have n0 : 1099511627776 ≤ n := Int.le_trans (Int.le_trans (by decide : (1099511627776 : Int) ≤ 2 ^ 40) (Ma.pow_bd 40 (40 + k) (by omega)).2) h0
  have n1 : n ≤ 281474976710655 := by
    have := Int.lt_of_lt_of_le h1 (Int.le_trans (Ma.pow_bd (40 + k + 1) 48 (by omega)).2 (by decide : (2 : Int) ^ 48 ≤ 281474976710656))
    omega
  have e : n / 2 ^ 40 = n / 4294967296 / 256 := by
    show n / 1099511627776 = n / 4294967296 / 256
    omega
  rw [e] at q0 q1
  clear e h0 h1
  obtain ⟨r, hr, hx⟩ := split_pow _ k q0 q1
  have hp : 2 ^ k ≤ 2 ^ 7 := Nat.pow_le_pow_right (by decide) (by omega)
  have T := tab_at k r (by omega) hr
  have x0 : 0 ≤ n / 4294967296 / 256 := by omega
  have x1 : n / 4294967296 / 256 ≤ 255 := by omega
  have hm : Hid ((n / 4294967296 / 256).toNat = 2 ^ k + r) := by show (n / 4294967296 / 256).toNat = _; omega
  rw [← hm.out] at T
  clear hr hp hx hm q0 q1
  go_enter Try.func29, Try.ntmps29
  go_wp2
  go_ret
  refine ⟨ret1 ?_, rfl⟩
  rw [T]
  rw [IntWalk.wrap64_in ((k + 1 : Nat) : Int) ⟨by omega, by omega⟩]
  rw [IntWalk.wrap64_in _ ⟨by omega, by omega⟩]
  omega
set_option maxRecDepth 100000 in
theorem len64_6 (n : Int) (k : Nat) (w : World) (hk0 : 48 ≤ k) (hk : k < 56) (h0 : 2 ^ k ≤ n) (h1 : n < 2 ^ (k + 1)) :
    Calls Try.prog 29 #[.int .u64 n] w fun e w' => e = .returned (.int .i64 (k + 1)) ∧ w' = w := by
  obtain ⟨k, rfl⟩ : ∃ d, k = 48 + d := ⟨k - 48, by omega⟩
  obtain ⟨q0, q1⟩ := shr_bd n _ 48 (by omega) h0 h1
  rw [Nat.add_sub_cancel_left] at q0 q1
  have n0 : 281474976710656 ≤ n := Int.le_trans (Int.le_trans (by decide : (281474976710656 : Int) ≤ 2 ^ 48) (Ma.pow_bd 48 (48 + k) (by omega)).2) h0
  have n1 : n ≤ 72057594037927935 := by
    have := Int.lt_of_lt_of_le h1 (Int.le_trans (Ma.pow_bd (48 + k + 1) 56 (by omega)).2 (by decide : (2 : Int) ^ 56 ≤ 72057594037927936))
    omega
  have e : n / 2 ^ 48 = n / 4294967296 / 65536 := by
    show n / 281474976710656 = n / 4294967296 / 65536
    omega
  rw [e] at q0 q1
  clear e h0 h1
  obtain ⟨r, hr, hx⟩ := split_pow _ k q0 q1
  have hp : 2 ^ k ≤ 2 ^ 7 := Nat.pow_le_pow_right (by decide) (by omega)
  have T := tab_at k r (by omega) hr
  have x0 : 0 ≤ n / 4294967296 / 65536 := by omega
  have x1 : n / 4294967296 / 65536 ≤ 255 := by omega
  have hm : Hid ((n / 4294967296 / 65536).toNat = 2 ^ k + r) := by show (n / 4294967296 / 65536).toNat = _; omega
  rw [← hm.out] at T
  clear hr hp hx hm q0 q1
  go_enter Try.func29, Try.ntmps29
  go_wp2
  go_ret
  refine ⟨ret1 ?_, rfl⟩
  rw [T]
  rw [IntWalk.wrap64_in ((k + 1 : Nat) : Int) ⟨by omega, by omega⟩]
  rw [IntWalk.wrap64_in _ ⟨by omega, by omega⟩]
  omega
set_option maxRecDepth 100000 in
theorem len64_7 (n : Int) (k : Nat) (w : World) (hk0 : 56 ≤ k) (hk : k < 62) (h0 : 2 ^ k ≤ n) (h1 : n < 2 ^ (k + 1)) :
    Calls Try.prog 29 #[.int .u64 n] w fun e w' => e = .returned (.int .i64 (k + 1)) ∧ w' = w := by
  obtain ⟨k, rfl⟩ : ∃ d, k = 56 + d := ⟨k - 56, by omega⟩
  obtain ⟨q0, q1⟩ := shr_bd n _ 56 (by omega) h0 h1
  rw [Nat.add_sub_cancel_left] at q0 q1
  have n0 : 72057594037927936 ≤ n := Int.le_trans (Int.le_trans (by decide : (72057594037927936 : Int) ≤ 2 ^ 56) (Ma.pow_bd 56 (56 + k) (by omega)).2) h0
  have n1 : n ≤ 4611686018427387903 := by
    have := Int.lt_of_lt_of_le h1 (Int.le_trans (Ma.pow_bd (56 + k + 1) 62 (by omega)).2 (by decide : (2 : Int) ^ 62 ≤ 4611686018427387904))
    omega
  have e : n / 2 ^ 56 = n / 4294967296 / 65536 / 256 := by
    show n / 72057594037927936 = n / 4294967296 / 65536 / 256
    omega
  rw [e] at q0 q1
  clear e h0 h1
  obtain ⟨r, hr, hx⟩ := split_pow _ k q0 q1
  have hp : 2 ^ k ≤ 2 ^ 7 := Nat.pow_le_pow_right (by decide) (by omega)
  have T := tab_at k r (by omega) hr
  have x0 : 0 ≤ n / 4294967296 / 65536 / 256 := by omega
  have x1 : n / 4294967296 / 65536 / 256 ≤ 255 := by omega
  have hm : Hid ((n / 4294967296 / 65536 / 256).toNat = 2 ^ k + r) := by show (n / 4294967296 / 65536 / 256).toNat = _; omega
  rw [← hm.out] at T
  clear hr hp hx hm q0 q1
  go_enter Try.func29, Try.ntmps29
  go_wp2
  go_ret
  refine ⟨ret1 ?_, rfl⟩
  rw [T]
  rw [IntWalk.wrap64_in ((k + 1 : Nat) : Int) ⟨by omega, by omega⟩]
  rw [IntWalk.wrap64_in _ ⟨by omega, by omega⟩]
  omega
/-- The length in binary digits. -/
theorem len_any (n : Int) (k : Nat) (w : World) (hk : k ≤ 61) (h0 : 2 ^ k ≤ n) (h1 : n < 2 ^ (k + 1)) :
    Calls Try.prog 20 #[.int .u64 n] w fun e w' => e = .returned (.int .i64 (k + 1)) ∧ w' = w := by
  have L : Hid (∀ w, Calls Try.prog 29 #[.int .u64 n] w fun e w' => e = .returned (.int .i64 (k + 1)) ∧ w' = w) := Lib.hid fun w => by
    by_cases a0 : k < 8
    · exact len64_0 n k w (by omega) a0 h0 h1
    by_cases a1 : k < 16
    · exact len64_1 n k w (by omega) a1 h0 h1
    by_cases a2 : k < 24
    · exact len64_2 n k w (by omega) a2 h0 h1
    by_cases a3 : k < 32
    · exact len64_3 n k w (by omega) a3 h0 h1
    by_cases a4 : k < 40
    · exact len64_4 n k w (by omega) a4 h0 h1
    by_cases a5 : k < 48
    · exact len64_5 n k w (by omega) a5 h0 h1
    by_cases a6 : k < 56
    · exact len64_6 n k w (by omega) a6 h0 h1
    exact len64_7 n k w (by omega) (by omega) h0 h1
  clear h0 h1
  go_enter Try.func20, Try.ntmps20
  go_wp2_with fail
  refine (L.out _).mono ?_
  rintro e w' ⟨rfl, rfl⟩
  go_wp2
  go_ret
  exact ⟨rfl, rfl⟩
end Log
end Go.Proofs.Ytkfjcanipmhanaa
