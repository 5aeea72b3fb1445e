/- Numbers as limbs: From, limbs of the law; LogNat. -/
import Derived.Test.YtkfjcanipmhanaaLogE
import Derived.Deep.AppendSrc
set_option linter.unusedVariables false
namespace Go.Proofs.Ytkfjcanipmhanaa
open Go.RowKit
namespace Nat'
theorem infoI : (Try.prog.info? 3).map (fun i => (i.zero, i.size, i.bytes)) = some (some (.int .i64 0), 1, 8) := by kernel_rfl
def iv (L : List Int) : List Value := L.map (.int .i64)
theorem iv_length (L : List Int) : (iv L).length = L.length := by simp [iv]
theorem Sl.of_own {B : Nat} {w : World} {g c n : Nat} {L : List Int} (h : Buf.Own B w (.slice (some ⟨g, 0, none⟩) n c) (iv L)) (h0 : 0 < L.length) (h1 : L.length ≤ 64) : Sl w g c L := by
  obtain ⟨g', c', e, _, hl, hc, _⟩ := h.parts (by rw [iv_length]; exact h0)
  injection e with e1 e2 e3
  injection e1 with e1
  injection e1 with e1
  subst e1 e3
  refine ⟨h0, by rw [iv_length] at hl; exact hl, h1, fun j hj => ?_⟩
  rw [hc j (by rw [iv_length]; exact hj)]
  simp [iv, List.getD, hj]
/-- What is left of a number n: p behind the limbs L. -/
structure LM (n p : Int) (L : List Int) : Prop where
  p0 : 0 ≤ p
  lo : ∀ j, 0 ≤ L.getD j 0
  hi : ∀ j, L.getD j 0 ≤ 1073741823
  eq : n = val L + p * B ^ L.length
  top : p = 0 → 1 ≤ L.length → 1 ≤ L.getD (L.length - 1) 0
theorem LM.nil {n : Int} (h : 0 ≤ n) : LM n n [] := ⟨h, fun j => by simp, fun j => by simp, by show n = 0 + n * B ^ 0; rw [Int.pow_zero]; omega, fun _ h => by simp at h⟩
theorem getD_snoc (L : List Int) (x : Int) (j : Nat) : (L ++ [x]).getD j 0 = if j < L.length then L.getD j 0 else if j = L.length then x else 0 := by
  by_cases h : j < L.length
  · rw [if_pos h, List.getD_eq_getElem?_getD, List.getElem?_append_left h, List.getD_eq_getElem?_getD]
  · rw [if_neg h]
    by_cases e : j = L.length
    · subst e; simp
    · rw [if_neg e, List.getD_eq_getElem?_getD, List.getElem?_eq_none (by simp; omega)]; rfl
theorem val_snoc (L : List Int) (x : Int) : val (L ++ [x]) = val L + x * B ^ L.length := by
  have e : (L ++ [x]).length = L.length + 1 := by simp
  unfold val
  rw [e]
  show valP (L ++ [x]) L.length + (L ++ [x]).getD L.length 0 * B ^ L.length = _
  rw [valP_eq (L ++ [x]) L L.length (fun j hj => by rw [getD_snoc, if_pos hj]), getD_snoc, if_neg (by omega), if_pos rfl]
theorem LM.snoc {n p : Int} {L : List Int} (h : LM n p L) (hp : 0 < p) : LM n (p / 1073741824) (L ++ [p % 1073741824]) := by
  have q1 : 0 ≤ p % 1073741824 := by omega
  have q2 : p % 1073741824 ≤ 1073741823 := by omega
  refine ⟨by omega, fun j => ?_, fun j => ?_, ?_, fun h0 _ => ?_⟩
  · rw [getD_snoc]; have := h.lo j; split <;> (try split) <;> omega
  · rw [getD_snoc]; have := h.hi j; split <;> (try split) <;> omega
  · have e : (L ++ [p % 1073741824]).length = L.length + 1 := by simp
    have eb : B ^ (L.length + 1) = 1073741824 * B ^ L.length := by rw [Int.pow_succ, Int.mul_comm]; rfl
    have e4 : p = p % 1073741824 + p / 1073741824 * 1073741824 := by omega
    have e5 : p * B ^ L.length = p % 1073741824 * B ^ L.length + p / 1073741824 * (1073741824 * B ^ L.length) := by
      rw [← Int.mul_assoc, ← Int.add_mul, ← e4]
    rw [val_snoc, e, eb, h.eq, e5]; omega
  · have e : (L ++ [p % 1073741824]).length - 1 = L.length := by simp
    rw [e, getD_snoc, if_neg (by omega), if_pos rfl]; omega
theorem LM.len {n p : Int} {L : List Int} (h : LM n p L) (hp : 0 < p) (n9 : n ≤ 4611686018427387904) : L.length ≤ 2 := by
  by_cases hc : L.length ≤ 2
  · exact hc
  · obtain ⟨d, hd⟩ : ∃ d, L.length = 3 + d := ⟨L.length - 3, by omega⟩
    have v0 := (valP_bd L h.lo h.hi L.length).1
    have b1 : 1 * B ^ L.length ≤ p * B ^ L.length := Int.mul_le_mul_of_nonneg_right (by omega) (Int.le_of_lt (B_pos _))
    have b3 : B ^ 3 * 1 ≤ B ^ 3 * B ^ d := Int.mul_le_mul_of_nonneg_left (B_one d) (Int.le_of_lt (B_pos 3))
    have e3 : B ^ 3 = 1237940039285380274899124224 := by decide
    have e := h.eq
    unfold val at e
    rw [hd, Int.pow_add] at b1
    rw [hd, Int.pow_add] at e
    rw [hd] at v0
    rw [e3] at b1 b3 e
    omega
theorem LM.vl {n : Int} {L : List Int} (h : LM n 0 L) (h1 : 1 ≤ L.length) : VL L ∧ val L = n := ⟨⟨h.lo, h.hi, h.top rfl h1⟩, by have := h.eq; omega⟩
theorem LM.pos {n : Int} (h : LM n 0 []) : n = 0 := by have := h.eq; simpa [val, valP] using this
/-- The limbs of n in memory. -/
def Limbed (n : Int) (L : List Int) : Prop := VL L ∧ val L = n ∧ 1 ≤ L.length ∧ L.length ≤ 3
theorem and_limb {p : Int} (p0 : 0 ≤ p) (p9 : p ≤ 4611686018427387904) : bits .and .i64 p 1073741823 = p % 1073741824 := by
  obtain ⟨a, rfl⟩ := Int.eq_ofNat_of_zero_le p0
  have h := Ma.and_nat a 1073741823 (by omega) (by omega)
  have e : a &&& 1073741823 = a % 1073741824 := Nat.and_two_pow_sub_one_eq_mod a 30
  rw [e] at h
  exact h.trans (by omega)
set_option maxHeartbeats 1000000 in
theorem from_any (n : Int) (w : World) (h0 : 1 ≤ n) (h1 : n ≤ 4611686018427387904) :
    Calls Try.prog 17 #[.int .i64 n] w fun e w' => (∃ L g c, e = .returned (.tuple #[.slice (some ⟨g, 0, none⟩) L.length c, .int .i64 0]) ∧ Sl w' g c L ∧ Limbed n L) ∧ Below w.heap.size w w' := by
  obtain ⟨i0, hi, hz0, hz1, hz2⟩ := info_parts infoI
  have M0 := Lib.hid (LM.nil (n := n) (by omega))
  go_enter Try.func17, Try.ntmps17
  go_wp2_with fail
  go_loopw [0, 4] (fun u v wr => ∃ (p : Int) (L : List Int), u = .int .i64 p ∧ 0 ≤ p ∧ p ≤ 4611686018427387904 ∧ L.length ≤ 3 ∧ Hid (LM n p L) ∧ Hid (Buf.Own w.heap.size wr v (iv L)) ∧ Hid (Below w.heap.size w wr)) (fun u _ _ => (intOf u).toNat)
  case atStart => exact ⟨n, [], rfl, by omega, h1, by simp, M0, Lib.hid (Buf.Own.nil _ _), Lib.hid (Below.refl _ _)⟩
  case round =>
    obtain ⟨p, L, rfl, p0, p9, l3, M, hown, hb⟩ := hrel
    by_cases hp : 0 < p
    · have ll := M.out.len hp h1
      have hz : w.heap.size ≤ wr.heap.size := hb.out.size
      have M' := Lib.hid (M.out.snoc hp)
      clear M
      go_wp2_with (at_builtin; refine Buf.wpList_append_one rfl _ _ 26 rfl 3 _ i0 (.int .i64 0) 8 Try.underlying26 hi hz0 hz1 hz2 rfl rfl hown.out hb.out hz (.int .i64 (p % 1073741824)) rfl rfl (by rw [iv_length]; unfold maxLen; omega) (by rw [iv_length]; omega) ?_; intro v' w' hown' hb' _; replace hown' := Lib.hid hown'; replace hb' := Lib.hid hb')
      go_roundw
      case rel => exact ⟨p / 1073741824, L ++ [p % 1073741824], rfl, by omega, by omega, by simp; omega, M', Lib.hid (by have := hown'.out; simpa [iv] using this), hb'⟩
      case measure => simp [intOf]; omega
    · obtain rfl : p = 0 := by omega
      have hl1 : 1 ≤ L.length := by
        rcases L with _ | ⟨x, L⟩
        · have := M.out.pos; omega
        · simp
      obtain ⟨g, c, rfl, _⟩ := hown.out.parts (show 0 < (iv L).length by rw [iv_length]; omega)
      have V := Lib.hid (M.out.vl hl1)
      have S := Lib.hid (Sl.of_own hown.out hl1 (by omega))
      rw [iv_length]
      clear M hown
      go_wp2_with fail
      go_ret2
      exact ⟨⟨L, g, c, rfl, S.out, V.out.1, V.out.2, hl1, l3⟩, hb.out⟩
set_option maxHeartbeats 1000000 in
theorem limbs_any (n : Int) (w : World) (h0 : 1 ≤ n) (h1 : n ≤ 4611686018427387904) :
    Calls Try.prog 18 #[.int .i64 n] w fun e w' => (∃ L g c, e = .returned (.slice (some ⟨g, 0, none⟩) L.length c) ∧ Sl w' g c L ∧ Limbed n L) ∧ Below w.heap.size w w' := by
  obtain ⟨i0, hi, hz0, hz1, hz2⟩ := info_parts infoI
  have M0 := Lib.hid (LM.nil (n := n) (by omega))
  go_enter Try.func18, Try.ntmps18
  go_wp2_with fail
  go_loopw [0, 3] (fun u v wr => ∃ (p : Int) (L : List Int), u = .int .i64 p ∧ 0 ≤ p ∧ p ≤ 4611686018427387904 ∧ L.length ≤ 3 ∧ Hid (LM n p L) ∧ Hid (Buf.Own w.heap.size wr v (iv L)) ∧ Hid (Below w.heap.size w wr)) (fun u _ _ => (intOf u).toNat)
  case atStart => exact ⟨n, [], rfl, by omega, h1, by simp, M0, Lib.hid (Buf.Own.nil _ _), Lib.hid (Below.refl _ _)⟩
  case round =>
    obtain ⟨p, L, rfl, p0, p9, l3, M, hown, hb⟩ := hrel
    by_cases hp : 0 < p
    · have ll := M.out.len hp h1
      have hz : w.heap.size ≤ wr.heap.size := hb.out.size
      have M' := Lib.hid (M.out.snoc hp)
      have hand := Lib.hid (and_limb p0 p9)
      clear M
      go_wp2_with (at_builtin; refine Buf.wpList_append_one rfl _ _ 26 rfl 3 _ i0 (.int .i64 0) 8 Try.underlying26 hi hz0 hz1 hz2 rfl rfl hown.out hb.out hz (.int .i64 (bits .and .i64 p 1073741823)) rfl rfl (by rw [iv_length]; unfold maxLen; omega) (by rw [iv_length]; omega) ?_; intro v' w' hown' hb' _; replace hown' := Lib.hid hown'; replace hb' := Lib.hid hb')
      go_roundw
      case rel => exact ⟨p / 1073741824, L ++ [p % 1073741824], rfl, by omega, by omega, by simp; omega, M', Lib.hid (by have := hown'.out; rw [hand.out] at this; simpa [iv] using this), hb'⟩
      case measure => simp [intOf]; omega
    · obtain rfl : p = 0 := by omega
      have hl1 : 1 ≤ L.length := by
        rcases L with _ | ⟨x, L⟩
        · have := M.out.pos; omega
        · simp
      obtain ⟨g, c, rfl, _⟩ := hown.out.parts (show 0 < (iv L).length by rw [iv_length]; omega)
      have V := Lib.hid (M.out.vl hl1)
      have S := Lib.hid (Sl.of_own hown.out hl1 (by omega))
      rw [iv_length]
      clear M hown
      go_wp2_with fail
      go_ret
      exact ⟨⟨L, g, c, rfl, S.out, V.out.1, V.out.2, hl1, l3⟩, hb.out⟩
end Nat'
namespace Log
open Nat'
theorem logNat_one (g c : Nat) (L : List Int) (k : Nat) (Y : Int) (w : World) (hs : Sl w g c L) (hv : VL L) (hl : L.length = 1) (hx : LX (val L) k Y) (h62 : val L ≤ 4611686018427387904) :
    Calls Try.prog 14 #[.slice (some ⟨g, 0, none⟩) 1 c] w fun e w' => e = .returned (.tuple #[.int .i64 (256 * k + Y), .int .i64 0]) ∧ Below w.heap.size w w' := by
  have V := Lib.hid (valid_any g c 1 L w hs hv hl.symm)
  have I := Lib.hid (int_any g c 1 L w hs hv hl.symm h62)
  have D := Lib.hid hx.calls
  have hc := hs.le
  clear hs hv hl hx h62
  generalize val L = n at *
  go_enter Try.func14, Try.ntmps14
  go_wp2_with (go_at_call 25; with_reducible refine V.out.mono ?_; rintro e w' ⟨rfl, rfl⟩)
  refine I.out.mono ?_
  rintro e w1 ⟨rfl, hb⟩
  replace hb := Lib.hid hb
  go_wp2_with fail
  refine (D.out _).mono ?_
  rintro e w2 ⟨rfl, rfl⟩
  go_wp2_with fail
  go_ret2
  exact ⟨rfl, hb.out⟩
theorem logNat_two (g c q : Nat) (L : List Int) (k : Nat) (Y : Int) (w : World) (hs : Sl w g c L) (hv : VL L) (hl : L.length = q + 2) (hx : LX (L.getD (q + 1) 0 * 1073741824 + L.getD q 0) k Y) :
    Calls Try.prog 14 #[.slice (some ⟨g, 0, none⟩) (q + 2) c] w fun e w' => e = .returned (.tuple #[.int .i64 (256 * k + Y + 7680 * q), .int .i64 0]) ∧ Below w.heap.size w w' := by
  have V := Lib.hid (valid_any g c (q + 2) L w hs hv hl.symm)
  have D := Lib.hid hx.calls
  have hc := hs.le
  have h64 := hs.small
  have c1 := hs.cells (q + 1) (by omega)
  have c0 := hs.cells q (by omega)
  have a0 := hv.lo (q + 1)
  have a1 := hv.hi (q + 1)
  have b0 := hv.lo q
  have b1 := hv.hi q
  have y0 := hx.y0
  have y1 := hx.y1
  have k1 := hx.k1
  rw [hl] at hc h64
  clear hs hv hl hx
  generalize L.getD (q + 1) 0 = x1 at *
  generalize L.getD q 0 = x0 at *
  have hor : bits .or .i64 (x1 * 1073741824) x0 = x1 * 1073741824 + x0 := or_limb a0 (by omega) b0 b1
  go_enter Try.func14, Try.ntmps14
  go_wp2_with (go_at_call 25; with_reducible refine V.out.mono ?_; rintro e w' ⟨rfl, rfl⟩)
  have e1 : ((q : Int) + 2 - 1).toNat = q + 1 := by omega
  have e2 : ((q : Int) + 2 - 1 - 1).toNat = q := by omega
  have f1 : IntKind.i64.wrap ((q : Int) + 2 - 1 - 1) = (q : Int) + 2 - 1 - 1 := IntWalk.i64_in _ (by omega)
  have f2 : IntKind.i64.wrap (x1 * 1073741824) = x1 * 1073741824 := IntWalk.i64_in _ (by omega)
  have g1 : (0 : Int) ≤ (q : Int) + 2 - 1 := by omega
  have g2 : (0 : Int) ≤ (q : Int) + 2 - 1 - 1 := by omega
  have g3 : (q : Int) + 2 - 1 < (q : Int) + 2 := by omega
  have g4 : (q : Int) + 2 - 1 - 1 < (q : Int) + 2 := by omega
  go_quiet ((go_at_call 8; exact Calls.quiet_of_same (D.out _)))
  have e3 : (q : Int) + 2 - 1 - 1 = (q : Int) := by omega
  replace e3 := Lib.hid e3
  clear e1 e2 f1 f2 hor
  go_wp2
  go_ret2
  exact ⟨by show Ending.returned (.tuple #[.int .i64 (256 * (k : Int) + Y + 7680 * ((q : Int) + 2 - 1 - 1)), .int .i64 0]) = _; rw [e3.out], Buf.below_drewN (Below.refl _ _) _⟩
/-- LogNat at a number of at most three limbs. -/
theorem logNat_x (g c : Nat) (L : List Int) (n : Int) (k : Nat) (Y : Int) (w : World) (hs : Sl w g c L) (hL : Limbed n L) (n9 : n ≤ 4611686018427387904) (hx : LX n k Y) :
    Calls Try.prog 14 #[.slice (some ⟨g, 0, none⟩) L.length c] w fun e w' => e = .returned (.tuple #[.int .i64 (256 * k + Y), .int .i64 0]) ∧ Below w.heap.size w w' := by
  obtain ⟨hv, rfl, l1, l3⟩ := hL
  have b1 : B ^ 0 = 1 := by decide
  have b2 : B ^ 1 = 1073741824 := by decide
  have b3 : B ^ 2 = 1152921504606846976 := by decide
  rcases (by omega : L.length = 1 ∨ L.length = 2 ∨ L.length = 3) with h | h | h
  · rw [h]; exact logNat_one g c L k Y w hs hv h hx n9
  · have e : val L = L.getD 1 0 * 1073741824 + L.getD 0 0 := by
      unfold val; rw [h]
      show 0 + L.getD 0 0 * B ^ 0 + L.getD 1 0 * B ^ 1 = _
      rw [b1, b2]; omega
    rw [e] at hx
    have := logNat_two g c 0 L k Y w hs hv h hx
    rw [h]
    refine this.mono ?_
    rintro e w' ⟨rfl, hb⟩
    exact ⟨by simp, hb⟩
  · have e : val L = L.getD 0 0 + (L.getD 2 0 * 1073741824 + L.getD 1 0) * 1073741824 := by
      unfold val; rw [h]
      show 0 + L.getD 0 0 * B ^ 0 + L.getD 1 0 * B ^ 1 + L.getD 2 0 * B ^ 2 = _
      rw [b1, b2, b3]; omega
    have a0 := hv.lo 0
    have a1 := hv.hi 0
    have a2 := hv.lo 1
    have a3 := hv.last
    rw [h] at a3
    have a4 : 1 ≤ L.getD 2 0 := a3
    have e2 : val L / 1073741824 = L.getD 2 0 * 1073741824 + L.getD 1 0 := by omega
    obtain ⟨j, Z, hz⟩ := lx_of (val L / 1073741824) (by omega) (by omega)
    obtain ⟨rfl, rfl⟩ := lx_less hx (by omega) hz
    rw [e2] at hz
    have := logNat_two g c 1 L j Z w hs hv h hz
    rw [h]
    refine this.mono ?_
    rintro e w' ⟨rfl, hb⟩
    exact ⟨by congr 3; simp; omega, hb⟩
theorem zeros_at (m : Nat) (L : List Int) (j : Nat) : (List.replicate m 0 ++ L).getD j 0 = if j < m then 0 else L.getD (j - m) 0 := by
  by_cases h : j < m
  · rw [if_pos h, List.getD_eq_getElem?_getD, List.getElem?_append_left (by simpa using h)]; simp [h]
  · rw [if_neg h, List.getD_eq_getElem?_getD, List.getElem?_append_right (by simp; omega), List.getD_eq_getElem?_getD]; simp
theorem zeros_vl {m : Nat} {L : List Int} (hv : VL L) (l1 : 1 ≤ L.length) : VL (List.replicate m 0 ++ L) := by
  refine ⟨fun j => ?_, fun j => ?_, ?_⟩
  · rw [zeros_at]; have := hv.lo (j - m); split <;> omega
  · rw [zeros_at]; have := hv.hi (j - m); split <;> omega
  · have e : (List.replicate m 0 ++ L).length - 1 = m + (L.length - 1) := by simp; omega
    rw [e, zeros_at, if_neg (by omega), show m + (L.length - 1) - m = L.length - 1 by omega]; exact hv.last
/-- LogNat behind m limbs that are 0. -/
theorem logNat_y (g c m : Nat) (L : List Int) (n : Int) (k : Nat) (Y : Int) (w : World) (hs : Sl w g c (List.replicate m 0 ++ L)) (hL : Limbed n L) (n9 : n ≤ 4611686018427387904) (hx : LX n k Y) :
    Calls Try.prog 14 #[.slice (some ⟨g, 0, none⟩) (m + L.length) c] w fun e w' => e = .returned (.tuple #[.int .i64 (256 * k + Y + 7680 * m), .int .i64 0]) ∧ Below w.heap.size w w' := by
  by_cases hm : m = 0
  · subst hm
    have := logNat_x g c L n k Y w hs hL n9 hx
    rw [Nat.zero_add]
    refine this.mono ?_
    rintro e w' ⟨rfl, hb⟩
    exact ⟨by simp, hb⟩
  obtain ⟨hv, rfl, l1, l3⟩ := hL
  have hv' := zeros_vl (m := m) hv l1
  have b1 : B ^ 0 = 1 := by decide
  have b2 : B ^ 1 = 1073741824 := by decide
  have b3 : B ^ 2 = 1152921504606846976 := by decide
  have hlen : (List.replicate m 0 ++ L).length = m + L.length := by simp
  rcases (by omega : L.length = 1 ∨ L.length = 2 ∨ L.length = 3) with h | h | h
  · have e : val L = L.getD 0 0 := by
      unfold val; rw [h]
      show 0 + L.getD 0 0 * B ^ 0 = _
      rw [b1]; omega
    have a1 := hv.hi 0
    have a3 := hv.last
    rw [h] at a3
    have a4 : 1 ≤ L.getD 0 0 := a3
    obtain ⟨j, Z, hz⟩ := lx_of (val L * 1073741824) (by omega) (by omega)
    obtain ⟨rfl, rfl⟩ := lx_more hx (by omega) hz
    have t1 : (List.replicate m 0 ++ L).getD (m - 1 + 1) 0 = L.getD 0 0 := by rw [zeros_at, if_neg (by omega), show m - 1 + 1 - m = 0 by omega]
    have t0 : (List.replicate m 0 ++ L).getD (m - 1) 0 = 0 := by rw [zeros_at, if_pos (by omega)]
    have := logNat_two g c (m - 1) _ (k + 30) Z w hs hv' (by rw [hlen]; omega) (by rw [t1, t0, ← e, Int.add_zero]; exact hz)
    rw [h, show m + 1 = m - 1 + 2 by omega]
    refine this.mono ?_
    rintro e w' ⟨rfl, hb⟩
    exact ⟨by congr 3; simp; omega, hb⟩
  · have e : val L = L.getD 1 0 * 1073741824 + L.getD 0 0 := by
      unfold val; rw [h]
      show 0 + L.getD 0 0 * B ^ 0 + L.getD 1 0 * B ^ 1 = _
      rw [b1, b2]; omega
    have t1 : (List.replicate m 0 ++ L).getD (m + 1) 0 = L.getD 1 0 := by rw [zeros_at, if_neg (by omega), show m + 1 - m = 1 by omega]
    have t0 : (List.replicate m 0 ++ L).getD m 0 = L.getD 0 0 := by rw [zeros_at, if_neg (by omega), Nat.sub_self]
    have := logNat_two g c m _ k Y w hs hv' (by rw [hlen]; omega) (by rw [t1, t0, ← e]; exact hx)
    rw [h]
    exact this
  · have e : val L = L.getD 0 0 + (L.getD 2 0 * 1073741824 + L.getD 1 0) * 1073741824 := by
      unfold val; rw [h]
      show 0 + L.getD 0 0 * B ^ 0 + L.getD 1 0 * B ^ 1 + L.getD 2 0 * B ^ 2 = _
      rw [b1, b2, b3]; omega
    have a0 := hv.lo 0
    have a1 := hv.hi 0
    have a2 := hv.lo 1
    have a3 := hv.last
    rw [h] at a3
    have a4 : 1 ≤ L.getD 2 0 := a3
    have e2 : val L / 1073741824 = L.getD 2 0 * 1073741824 + L.getD 1 0 := by omega
    obtain ⟨j, Z, hz⟩ := lx_of (val L / 1073741824) (by omega) (by omega)
    obtain ⟨rfl, rfl⟩ := lx_less hx (by omega) hz
    have t1 : (List.replicate m 0 ++ L).getD (m + 1 + 1) 0 = L.getD 2 0 := by rw [zeros_at, if_neg (by omega), show m + 1 + 1 - m = 2 by omega]
    have t0 : (List.replicate m 0 ++ L).getD (m + 1) 0 = L.getD 1 0 := by rw [zeros_at, if_neg (by omega), show m + 1 - m = 1 by omega]
    have := logNat_two g c (m + 1) _ j Z w hs hv' (by rw [hlen]; omega) (by rw [t1, t0, ← e2]; exact hz)
    rw [h, show m + 3 = m + 1 + 2 by omega]
    refine this.mono ?_
    rintro e w' ⟨rfl, hb⟩
    exact ⟨by congr 3; simp; omega, hb⟩
end Log
end Go.Proofs.Ytkfjcanipmhanaa
