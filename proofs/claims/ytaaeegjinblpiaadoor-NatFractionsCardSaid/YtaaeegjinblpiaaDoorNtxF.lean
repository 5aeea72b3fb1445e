/- From, at any number up to 2^62. -/
import Derived.Test.YtaaeegjinblpiaaDoorNtxW
import Derived.Test.YtaaeegjinblpiaaDoorNtxX
set_option linter.unusedVariables false
set_option linter.unusedSimpArgs false
namespace Go.Proofs.YtaaeegjinblpiaaDoor
open Go.RowKit Dice
namespace Nt
structure Fr (n p : Int) (L : List Int) : Prop where
  rg : Rg L
  top : p = 0 → ∀ x, L.getLast? = some x → x ≠ 0
  eq : vl L + p * 1073741824 ^ L.length = n
theorem Fr.snoc {n p : Int} {L : List Int} (h : Fr n p L) (hp : 0 < p) : Fr n (p / 1073741824) (L ++ [p % 1073741824]) := by
  refine ⟨fun x hx => ?_, fun h0 x hx => ?_, ?_⟩
  · rcases List.mem_append.1 hx with hx | hx
    · exact h.rg x hx
    · rw [List.mem_singleton] at hx; omega
  · rw [List.getLast?_concat] at hx
    have := Option.some.inj hx; omega
  · have e := h.eq
    have h3 := Int.mul_ediv_add_emod p 1073741824
    rw [vl_snoc, List.length_append, List.length_singleton, Int.pow_succ]
    have e2 : p / 1073741824 * (1073741824 ^ L.length * 1073741824) = (1073741824 * (p / 1073741824)) * 1073741824 ^ L.length := by
      rw [Int.mul_comm (1073741824 ^ L.length) 1073741824, ← Int.mul_assoc, Int.mul_comm (p / 1073741824) 1073741824]
    rw [e2, Int.add_assoc, ← Int.add_mul, Int.add_comm (p % 1073741824), h3]; exact e
theorem Fr.len {n p : Int} {L : List Int} (h : Fr n p L) (hp : 0 < p) (n9 : n ≤ 4611686018427387904) : L.length ≤ 2 := by
  apply Classical.byContradiction
  intro hc
  have h1 := pow_le 3 L.length (by omega)
  have h2 := vl_nn L h.rg
  have e := h.eq
  have h3 : 1 * 1073741824 ^ L.length ≤ p * 1073741824 ^ L.length := Int.mul_le_mul_of_nonneg_right (by omega) (Int.le_of_lt (Int.pow_pos (by decide)))
  have h4 : (1073741824 : Int) ^ 3 = 1237940039285380274899124224 := by decide
  omega
theorem Fr.done {n : Int} {L : List Int} (h : Fr n 0 L) : Limbs L ∧ vl L = n := ⟨⟨h.rg, h.top rfl⟩, by have := h.eq; omega⟩
theorem and_limb {p : Int} (p0 : 0 ≤ p) (p9 : p ≤ 4611686018427387904) : bits .and .i64 p 1073741823 = p % 1073741824 := by
  obtain ⟨a, rfl⟩ := Int.eq_ofNat_of_zero_le p0
  have h := Ma.and_nat a 1073741823 (by omega) (by omega)
  have e : a &&& 1073741823 = a % 1073741824 := Nat.and_two_pow_sub_one_eq_mod a 30
  rw [e] at h
  exact h.trans (by omega)
set_option maxHeartbeats 2000000 in
set_option maxRecDepth 100000 in
theorem from_any (n : Int) (w : World) (h0 : 0 ≤ n) (h1 : n ≤ 4611686018427387904) :
    Calls Tryd.prog 6 #[.int .i64 n] w fun e w' => (∃ (a : Option Addr) (m c : Nat) (L : List Int), e = .returned (.tuple #[.slice a m c, .int .i64 0]) ∧ Nr w' a m c L ∧ Limbs L ∧ vl L = n ∧ m ≤ 3) ∧ Below w.heap.size w w' := by
  obtain ⟨i0, hi, hz0, hz1, hz2⟩ := info_parts infoI
  have M0 := Lib.hid (show Fr n n [] from ⟨fun x hx => (by cases hx), fun _ x hx => (by simp at hx), by show 0 + n * 1073741824 ^ 0 = n; rw [Int.pow_zero]; omega⟩)
  go_enter Tryd.func6, Tryd.ntmps6
  go_wp2_with fail
  go_loopw [0, 4] (fun u v wr => ∃ (p : Int) (L : List Int), u = .int .i64 p ∧ 0 ≤ p ∧ p ≤ 4611686018427387904 ∧ L.length ≤ 3 ∧ Hid (Fr n p L) ∧ Hid (Buf.Own w.heap.size wr v (iv L)) ∧ Hid (Below w.heap.size w wr)) (fun u _ _ => (intOf u).toNat)
  case atStart => exact ⟨n, [], rfl, by omega, h1, by simp, M0, Lib.hid (Buf.Own.nil _ _), Lib.hid (Below.refl _ _)⟩
  case round =>
    obtain ⟨p, L, rfl, p0, p9, l3, M, hown, hb⟩ := hrel
    by_cases hp : 0 < p
    · have ll := M.out.len hp h1
      have hz : w.heap.size ≤ wr.heap.size := hb.out.size
      have M' := Lib.hid (M.out.snoc hp)
      have hal := and_limb p0 p9
      clear M
      go_wp2_with (at_builtin; refine Buf.wpList_append_one rfl _ _ 25 rfl 3 _ i0 (.int .i64 0) 8 Tryd.underlying25 hi hz0 hz1 hz2 rfl rfl hown.out hb.out hz (.int .i64 (p % 1073741824)) rfl rfl (by rw [iv_length]; unfold maxLen; omega) (by rw [iv_length]; omega) ?_; intro v' w' hown' hb' _; replace hown' := Lib.hid hown'; replace hb' := Lib.hid hb')
      go_roundw
      case rel => exact ⟨p / 1073741824, L ++ [p % 1073741824], rfl, by omega, by omega, by simp; omega, M', Lib.hid (by have := hown'.out; simpa [iv] using this), hb'⟩
      case measure => simp [intOf]; omega
    · obtain rfl : p = 0 := by omega
      obtain ⟨a, m, c, rfl, NR⟩ := nr_own hown.out (by omega)
      have D := Lib.hid M.out.done
      have hm := NR.len
      replace NR := Lib.hid NR
      have hm3 : m ≤ 3 := by omega
      clear M hown hm
      go_wp2_with fail
      go_ret2
      exact ⟨⟨a, m, c, rfl, L, NR.out, D.out.1, D.out.2, hm3⟩, hb.out⟩
end Nt
end Go.Proofs.YtaaeegjinblpiaaDoor
