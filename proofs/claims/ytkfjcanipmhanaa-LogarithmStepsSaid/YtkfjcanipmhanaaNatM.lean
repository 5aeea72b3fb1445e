/- A product with one limb, limb by limb: plain lists. -/
import Derived.Test.YtkfjcanipmhanaaNat
namespace Go.Proofs.Ytkfjcanipmhanaa
open Go.RowKit
namespace Nat'
/-- What is carried into place k, and what stands there then. -/
def cr (L : List Int) (y : Int) : Nat → Int
  | 0 => 0
  | k + 1 => (cr L y k + L.getD k 0 * y) / 1073741824
def dgt (L : List Int) (y : Int) (k : Nat) : Int := (cr L y k + L.getD k 0 * y) % 1073741824
theorem cr_bd (L : List Int) (y : Int) (lo : ∀ j, 0 ≤ L.getD j 0) (hi : ∀ j, L.getD j 0 ≤ 1073741823) (y0 : 1 ≤ y) (y1 : y ≤ 1073741823) (k : Nat) : 0 ≤ cr L y k ∧ cr L y k ≤ 1073741823 := by
  induction k with
  | zero => exact ⟨Int.le_refl 0, show (0 : Int) ≤ 1073741823 by decide⟩
  | succ k ih =>
    have a := Int.mul_nonneg (lo k) (show 0 ≤ y by omega)
    have b := Int.mul_le_mul (hi k) y1 (by omega) (by decide)
    show 0 ≤ (_ + _) / 1073741824 ∧ (_ + _) / 1073741824 ≤ _
    generalize L.getD k 0 * y = t at *
    omega
theorem prod_bd (L : List Int) (y : Int) (lo : ∀ j, 0 ≤ L.getD j 0) (hi : ∀ j, L.getD j 0 ≤ 1073741823) (y0 : 1 ≤ y) (y1 : y ≤ 1073741823) (k : Nat) : 0 ≤ L.getD k 0 * y ∧ L.getD k 0 * y ≤ 1152921502459363329 :=
  ⟨Int.mul_nonneg (lo k) (by omega), Int.mul_le_mul (hi k) y1 (by omega) (by decide)⟩
/-- The product's row behind k rounds. -/
def pl (L : List Int) (y : Int) (k : Nat) : List Int := (List.range (L.length + 1)).map fun j => if j < k then dgt L y j else if j = k then cr L y k else 0
theorem pl_length (L : List Int) (y : Int) (k : Nat) : (pl L y k).length = L.length + 1 := by simp [pl]
theorem pl_at (L : List Int) (y : Int) (k j : Nat) (hj : j < L.length + 1) : (pl L y k).getD j 0 = if j < k then dgt L y j else if j = k then cr L y k else 0 := by
  simp [pl, List.getD, hj]
theorem pl_zero (L : List Int) (y : Int) : pl L y 0 = List.replicate (L.length + 1) 0 := by
  apply List.ext_getElem
  · simp [pl]
  · intro j h1 h2
    simp only [pl, List.getElem_map, List.getElem_range, List.getElem_replicate]
    split
    · omega
    · split <;> rfl
theorem pl_step (L : List Int) (y : Int) (k : Nat) : ((pl L y k).set k (dgt L y k)).set (k + 1) (cr L y (k + 1)) = pl L y (k + 1) := by
  apply List.ext_getElem
  · simp [pl]
  · intro j h1 h2
    simp only [pl, List.getElem_set, List.getElem_map, List.getElem_range]
    by_cases a : k + 1 = j
    · subst a; rw [if_pos rfl, if_neg (by omega), if_pos rfl]
    · rw [if_neg a]
      by_cases b : k = j
      · subst b; rw [if_pos rfl, if_pos (by omega)]
      · rw [if_neg b]
        by_cases c : j < k
        · rw [if_pos c, if_pos (by omega)]
        · rw [if_neg c, if_neg (by omega), if_neg (by omega), if_neg (by omega)]
theorem dg_val (L M : List Int) (y : Int) (k : Nat) (h : ∀ j, j < k → M.getD j 0 = dgt L y j) : valP M k + cr L y k * B ^ k = valP L k * y := by
  induction k with
  | zero => show (0 : Int) + 0 * B ^ 0 = 0 * y; simp
  | succ k ih =>
    have ih := ih fun j hj => h j (by omega)
    have e := h k (by omega)
    show valP M k + M.getD k 0 * B ^ k + cr L y (k + 1) * B ^ (k + 1) = (valP L k + L.getD k 0 * B ^ k) * y
    have t : dgt L y k + 1073741824 * cr L y (k + 1) = cr L y k + L.getD k 0 * y := by
      show (cr L y k + L.getD k 0 * y) % 1073741824 + 1073741824 * ((cr L y k + L.getD k 0 * y) / 1073741824) = _
      omega
    have p : cr L y (k + 1) * B ^ (k + 1) = 1073741824 * cr L y (k + 1) * B ^ k := by
      rw [Int.pow_succ, Int.mul_comm (B ^ k) B, ← Int.mul_assoc, Int.mul_comm (cr L y (k + 1)) B]; rfl
    have q : L.getD k 0 * B ^ k * y = L.getD k 0 * y * B ^ k := by
      rw [Int.mul_assoc, Int.mul_comm (B ^ k) y, ← Int.mul_assoc]
    rw [e, p, Int.add_mul, q, ← ih]
    have r : dgt L y k * B ^ k + 1073741824 * cr L y (k + 1) * B ^ k = cr L y k * B ^ k + L.getD k 0 * y * B ^ k := by
      rw [← Int.add_mul, t, Int.add_mul]
    omega
theorem getD_take (M : List Int) (n j : Nat) (h : j < n) : (M.take n).getD j 0 = M.getD j 0 := by
  simp [List.getD, h]
theorem getD_out (M : List Int) (j : Nat) (h : M.length ≤ j) : M.getD j 0 = 0 := by
  simp [List.getD, List.getElem?_eq_none h]
/-- The row without a last zero. -/
def pr (L : List Int) (y : Int) : List Int := if cr L y L.length = 0 then (pl L y L.length).take L.length else pl L y L.length
theorem pr_spec (L : List Int) (y : Int) (hv : VL L) (h0 : 0 < L.length) (y0 : 1 ≤ y) (y1 : y ≤ 1073741823) : VL (pr L y) ∧ val (pr L y) = val L * y ∧ L.length ≤ (pr L y).length ∧ (pr L y).length ≤ L.length + 1 := by
  have cb := cr_bd L y hv.lo hv.hi y0 y1
  have db : ∀ j, 0 ≤ dgt L y j ∧ dgt L y j ≤ 1073741823 := fun j => by unfold dgt; omega
  have hb : ∀ j, 0 ≤ (pl L y L.length).getD j 0 ∧ (pl L y L.length).getD j 0 ≤ 1073741823 := fun j => by
    by_cases hj : j < L.length + 1
    · rw [pl_at L y _ j hj]
      split
      · exact db j
      · split
        · exact cb _
        · omega
    · rw [getD_out _ _ (by rw [pl_length]; omega)]; omega
  have hd : ∀ j, j < L.length → (pl L y L.length).getD j 0 = dgt L y j := fun j hj => by rw [pl_at L y _ j (by omega), if_pos hj]
  have V := dg_val L (pl L y L.length) y L.length hd
  unfold pr
  by_cases hc : cr L y L.length = 0
  · rw [if_pos hc]
    have hl : ((pl L y L.length).take L.length).length = L.length := by rw [List.length_take, pl_length]; omega
    refine ⟨⟨fun j => ?_, fun j => ?_, ?_⟩, ?_, by omega, by omega⟩
    · by_cases hj : j < L.length
      · rw [getD_take _ _ _ hj]; exact (hb j).1
      · rw [getD_out _ _ (by omega)]; omega
    · by_cases hj : j < L.length
      · rw [getD_take _ _ _ hj]; exact (hb j).2
      · rw [getD_out _ _ (by omega)]; omega
    · rw [hl, getD_take _ _ _ (by omega), hd _ (by omega)]
      obtain ⟨m, hm⟩ : ∃ m, L.length = m + 1 := ⟨L.length - 1, by omega⟩
      have l := hv.last
      rw [hm, Nat.add_sub_cancel] at l ⊢
      rw [hm] at hc
      have hc' : (cr L y m + L.getD m 0 * y) / 1073741824 = 0 := hc
      have c0 := (cb m).1
      have p : 1 * 1 ≤ L.getD m 0 * y := Int.mul_le_mul l y0 (by decide) (by omega)
      show 1 ≤ (cr L y m + L.getD m 0 * y) % 1073741824
      generalize L.getD m 0 * y = t at *
      omega
    · rw [hc, Int.zero_mul, Int.add_zero] at V
      unfold val
      rw [hl, ← V]
      exact valP_eq _ _ _ fun j hj => getD_take _ _ _ hj
  · rw [if_neg hc]
    have e := pl_at L y L.length L.length (by omega)
    rw [if_neg (by omega), if_pos rfl] at e
    refine ⟨⟨fun j => (hb j).1, fun j => (hb j).2, ?_⟩, ?_, by rw [pl_length]; omega, by rw [pl_length]; omega⟩
    · rw [pl_length, Nat.add_sub_cancel, e]
      have := (cb L.length).1
      omega
    · unfold val
      rw [pl_length]
      show valP _ L.length + _ * B ^ L.length = _
      rw [e, V]
theorem len_of_val (L : List Int) (hv : VL L) (h0 : 0 < L.length) (m : Nat) (h : val L < B ^ m) : L.length ≤ m := by
  obtain ⟨k, hk⟩ : ∃ k, L.length = k + 1 := ⟨L.length - 1, by omega⟩
  have b := valP_bd L hv.lo hv.hi k
  have l := hv.last
  rw [hk, Nat.add_sub_cancel] at l
  have c : 1 * B ^ k ≤ L.getD k 0 * B ^ k := Int.mul_le_mul_of_nonneg_right l (Int.le_of_lt (B_pos k))
  unfold val at h
  rw [hk] at h
  have h' : valP L k + L.getD k 0 * B ^ k < B ^ m := h
  by_cases hm : L.length ≤ m
  · exact hm
  · obtain ⟨d, rfl⟩ : ∃ d, k = m + d := ⟨k - m, by omega⟩
    have q := Int.mul_le_mul_of_nonneg_left (B_one d) (Int.le_of_lt (B_pos m))
    have e := Int.pow_add B m d
    omega
end Nat'
end Go.Proofs.Ytkfjcanipmhanaa
