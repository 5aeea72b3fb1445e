/- Sizes and order of numbers: the mathematics. -/
import Derived.Test.YtaaeegjinblpiaaDoorNtxL
set_option linter.unusedVariables false
set_option linter.unusedSimpArgs false
namespace Go.Proofs.YtaaeegjinblpiaaDoor
open Go.Lib
namespace Nt
theorem vl_lt : ∀ (L : List Int), Rg L → vl L < 1073741824 ^ L.length
  | [], _ => by simp [vl]
  | x :: l, h => by
    have ih := vl_lt l h.cons.2
    have hx := h.cons.1
    simp only [vl, List.length_cons, Int.pow_succ]
    omega
theorem vl_ge : ∀ (L : List Int), Limbs L → L ≠ [] → 1073741824 ^ (L.length - 1) ≤ vl L
  | [], _, h => absurd rfl h
  | [x], h, _ => by
    have h1 := h.rng x (by simp)
    have h2 := h.last x rfl
    simp [vl]; omega
  | x :: y :: l, h, _ => by
    have h1 := h.rng x (by simp)
    have ih := vl_ge (y :: l) h.tail (by simp)
    simp only [vl, List.length_cons, Nat.add_sub_cancel, Int.pow_succ] at ih ⊢
    omega
theorem pow_le (a b : Nat) (h : a ≤ b) : (1073741824 : Int) ^ a ≤ 1073741824 ^ b := by
  obtain ⟨c, rfl⟩ := Nat.exists_eq_add_of_le h
  rw [Int.pow_add]
  have h1 : (0 : Int) < 1073741824 ^ a := Int.pow_pos (by decide)
  have h2 : (0 : Int) < 1073741824 ^ c := Int.pow_pos (by decide)
  calc (1073741824 : Int) ^ a = 1073741824 ^ a * 1 := (Int.mul_one _).symm
    _ ≤ 1073741824 ^ a * 1073741824 ^ c := Int.mul_le_mul_of_nonneg_left (by omega) (by omega)
/-- A shorter number is less. -/
theorem vl_short {L M : List Int} (hL : Rg L) (hM : Limbs M) (h : L.length < M.length) : vl L < vl M := by
  have h1 := vl_lt L hL
  have h2 := vl_ge M hM (fun e => by rw [e] at h; simp at h)
  have h3 := pow_le L.length (M.length - 1) (by omega)
  omega
theorem len_le {L M : List Int} (hL : Limbs L) (hM : Limbs M) (h : vl L ≤ vl M) : L.length ≤ M.length := by
  rcases Nat.lt_or_ge M.length L.length with h1 | h1
  · have := vl_short hM.rg hL h1; omega
  · exact h1
theorem dval_le (l m : List UInt8) : dval l ≤ dval (l ++ m) := by
  induction m generalizing l with
  | nil => simp
  | cons c m ih =>
    have h1 := ih (l ++ [c])
    rw [dval_snoc, List.append_assoc] at h1
    have : l ++ ([c] ++ m) = l ++ c :: m := rfl
    rw [this] at h1
    omega
/-- What is read of the front of a text is no longer than the number. -/
theorem rd_take (l : List UInt8) (h : Digs l) (i : Nat) : (rd (l.take i)).length ≤ (rd l).length := by
  obtain ⟨h1, h2⟩ := rd_spec (l.take i) fun c hc => h c (List.mem_of_mem_take hc)
  obtain ⟨h3, h4⟩ := rd_spec l h
  refine len_le h1 h3 ?_
  have := dval_le (l.take i) (l.drop i)
  rw [List.take_append_drop] at this
  rw [h2, h4]; omega
/-- Comparing from the top. -/
theorem vl_top (L M : List Int) (x y : Int) (hL : Rg L) (hM : Rg M) (hx : x < y) (hl : L.length = M.length) : vl (L ++ [x]) < vl (M ++ [y]) := by
  rw [vl_snoc, vl_snoc, hl]
  have h1 := vl_lt L hL
  have h2 := vl_nn M hM
  rw [hl] at h1
  have h3 : (0 : Int) < 1073741824 ^ M.length := Int.pow_pos (by decide)
  have h4 : (x + 1) * 1073741824 ^ M.length ≤ y * 1073741824 ^ M.length := Int.mul_le_mul_of_nonneg_right (by omega) (by omega)
  rw [Int.add_mul, Int.one_mul] at h4
  omega
end Nt
end Go.Proofs.YtaaeegjinblpiaaDoor
