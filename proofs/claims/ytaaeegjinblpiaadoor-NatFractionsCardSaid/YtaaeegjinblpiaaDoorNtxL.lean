/- Numbers as lists of limbs: dividing by a small number, ten times and a digit: the mathematics. -/
import Derived.Test.YtaaeegjinblpiaaDoorNtxM
set_option linter.unusedVariables false
set_option linter.unusedSimpArgs false
namespace Go.Proofs.YtaaeegjinblpiaaDoor
open Go.Lib
namespace Nt
/-- The number of a list of limbs, the lowest first. -/
def vl : List Int → Int
  | [] => 0
  | x :: l => x + 1073741824 * vl l
structure Limbs (L : List Int) : Prop where
  rng : ∀ x ∈ L, 0 ≤ x ∧ x ≤ 1073741823
  last : ∀ x, L.getLast? = some x → x ≠ 0
def Rg (L : List Int) : Prop := ∀ x ∈ L, 0 ≤ x ∧ x ≤ 1073741823
theorem Rg.cons {x : Int} {l : List Int} (h : Rg (x :: l)) : (0 ≤ x ∧ x ≤ 1073741823) ∧ Rg l := ⟨h x (by simp), fun y hy => h y (by simp [hy])⟩
theorem vl_nn : ∀ (L : List Int), Rg L → 0 ≤ vl L
  | [], _ => by simp [vl]
  | x :: l, h => by have := vl_nn l h.cons.2; have := h.cons.1; simp only [vl]; omega
theorem vl_snoc (L : List Int) (x : Int) : vl (L ++ [x]) = vl L + x * 1073741824 ^ L.length := by
  induction L with
  | nil => simp [vl]
  | cons a l ih =>
    simp only [List.cons_append, vl, ih, List.length_cons, Int.pow_succ, Int.mul_add]
    rw [Int.mul_comm (1073741824 ^ l.length) 1073741824, ← Int.mul_assoc, ← Int.mul_assoc, Int.mul_comm x 1073741824]
    omega
theorem vl_pos : ∀ (L : List Int), Limbs L → L ≠ [] → 1 ≤ vl L
  | [], _, h => absurd rfl h
  | [x], h, _ => by
    have h1 := h.rng x (by simp)
    have h2 := h.last x rfl
    simp only [vl]; omega
  | x :: y :: l, h, _ => by
    have h1 := h.rng x (by simp)
    have h2 := vl_pos (y :: l) ⟨fun z hz => h.rng z (by simp [hz]), fun z hz => h.last z (by rw [List.getLast?_cons_cons]; exact hz)⟩ (by simp)
    simp only [vl] at h2 ⊢; omega
theorem Limbs.zero {L : List Int} (h : Limbs L) : vl L = 0 ↔ L = [] := by
  constructor
  · intro e
    by_cases hL : L = []
    · exact hL
    · have := vl_pos L h hL; omega
  · rintro rfl; rfl
theorem Limbs.rg {L : List Int} (h : Limbs L) : Rg L := h.rng
theorem Limbs.tail {x : Int} {l : List Int} (h : Limbs (x :: l)) : Limbs l := ⟨fun y hy => h.rng y (by simp [hy]), fun y hy => h.last y (by
  cases l with
  | nil => simp at hy
  | cons b l => rw [List.getLast?_cons_cons]; exact hy)⟩
/-- The limbs of a number are its own. -/
theorem limbs_inj : ∀ (L M : List Int), Limbs L → Limbs M → vl L = vl M → L = M
  | [], M, hL, hM, h => ((hM.zero).1 (by rw [← h]; rfl)).symm
  | x :: l, [], hL, hM, h => (hL.zero).1 (by rw [h]; rfl)
  | x :: l, y :: m, hL, hM, h => by
    have h1 := hL.rng x (by simp)
    have h2 := hM.rng y (by simp)
    simp only [vl] at h
    have hv : vl l = vl m := by omega
    have hx : x = y := by omega
    rw [hx, limbs_inj l m hL.tail hM.tail hv]
/-- Dividing from the top: the quotients and the rest. -/
def dq (d : Int) : List Int → List Int × Int
  | [] => ([], 0)
  | x :: l => (((dq d l).2 * 1073741824 + x) / d :: (dq d l).1, ((dq d l).2 * 1073741824 + x) % d)
theorem dq_len (d : Int) : ∀ L, (dq d L).1.length = L.length
  | [] => rfl
  | x :: l => by simp [dq, dq_len d l]
theorem dq_rest (d : Int) (h : 1 ≤ d) : ∀ L, 0 ≤ (dq d L).2 ∧ (dq d L).2 < d
  | [] => ⟨Int.le_refl 0, by show (0 : Int) < d; omega⟩
  | x :: l => ⟨Int.emod_nonneg _ (by omega), Int.emod_lt_of_pos _ (by omega)⟩
theorem dq_rg (d : Int) (h : 1 ≤ d) : ∀ L, Rg L → Rg (dq d L).1
  | [], _ => fun x hx => by simp [dq] at hx
  | x :: l, hr => fun y hy => by
    obtain ⟨h1, h2⟩ := dq_rest d h l
    have hx := hr.cons.1
    simp only [dq, List.mem_cons] at hy
    rcases hy with rfl | hy
    · refine ⟨Int.ediv_nonneg (by omega) (by omega), ?_⟩
      have : ((dq d l).2 * 1073741824 + x) / d < 1073741824 := Int.ediv_lt_of_lt_mul (by omega) (by
        have : ((dq d l).2 + 1) * 1073741824 ≤ d * 1073741824 := Int.mul_le_mul_of_nonneg_right (by omega) (by omega)
        rw [Int.mul_comm 1073741824 d]; omega)
      omega
    · exact dq_rg d h l hr.cons.2 y hy
theorem dq_val (d : Int) (h : 1 ≤ d) : ∀ L, vl L = d * vl (dq d L).1 + (dq d L).2
  | [] => by simp [dq, vl]
  | x :: l => by
    have ih := dq_val d h l
    have e := Int.mul_ediv_add_emod ((dq d l).2 * 1073741824 + x) d
    simp only [dq, vl]
    rw [Int.mul_add, ih]
    have e2 : d * (1073741824 * vl (dq d l).1) = 1073741824 * (d * vl (dq d l).1) := by rw [← Int.mul_assoc, Int.mul_comm d, Int.mul_assoc]
    rw [e2]; omega
/-- What is left without the zeros at the top. -/
def tr : List Int → List Int
  | [] => []
  | x :: l => if x = 0 ∧ tr l = [] then [] else x :: tr l
theorem tr_val : ∀ L, vl (tr L) = vl L
  | [] => rfl
  | x :: l => by
    have ih := tr_val l
    simp only [tr]
    split
    · rename_i h
      rw [h.2] at ih
      simp only [vl] at ih ⊢; omega
    · simp only [vl, ih]
theorem tr_limbs : ∀ L, Rg L → Limbs (tr L)
  | [], _ => ⟨fun x hx => by simp [tr] at hx, fun x hx => by simp [tr] at hx⟩
  | x :: l, h => by
    have ih := tr_limbs l h.cons.2
    simp only [tr]
    split
    · exact ⟨fun x hx => by simp at hx, fun x hx => by simp at hx⟩
    · rename_i hn
      refine ⟨fun y hy => ?_, fun y hy => ?_⟩
      · rcases List.mem_cons.1 hy with rfl | hy
        · exact h.cons.1
        · exact ih.rng y hy
      · cases ht : tr l with
        | nil =>
          rw [ht] at hy
          simp at hy
          subst hy
          exact fun e => hn ⟨e, ht⟩
        | cons b m =>
          rw [ht, List.getLast?_cons_cons, ← ht] at hy
          exact ih.last y hy
/-- What is cut off are zeros. -/
theorem tr_take : ∀ L, tr L = L.take (tr L).length ∧ ∀ x ∈ L.drop (tr L).length, x = 0
  | [] => ⟨rfl, fun x hx => by simp at hx⟩
  | x :: l => by
    obtain ⟨h1, h2⟩ := tr_take l
    simp only [tr]
    split
    · rename_i h
      refine ⟨rfl, fun y hy => ?_⟩
      rw [h.2] at h2
      rcases List.mem_cons.1 (by simpa using hy : y ∈ x :: l) with rfl | hy
      · exact h.1
      · exact h2 y (by simpa using hy)
    · refine ⟨?_, ?_⟩
      · rw [List.length_cons, List.take_succ_cons, ← h1]
      · rw [List.length_cons, List.drop_succ_cons]; exact h2
theorem tr_le (L : List Int) : (tr L).length ≤ L.length := by
  have := (tr_take L).1
  rw [this, List.length_take]; omega
/-- The quotient of a number. -/
theorem div_spec {L : List Int} (h : Limbs L) (d : Int) (hd : 1 ≤ d) : Limbs (tr (dq d L).1) ∧ vl (tr (dq d L).1) = vl L / d ∧ (dq d L).2 = vl L % d := by
  obtain ⟨h1, h2⟩ := dq_rest d hd L
  have hv := dq_val d hd L
  refine ⟨tr_limbs _ (dq_rg d hd L h.rg), ?_, ?_⟩
  · rw [tr_val, hv, Int.mul_comm, Int.add_comm, Int.add_mul_ediv_right _ _ (by omega), Int.ediv_eq_zero_of_lt h1 h2]; omega
  · rw [hv, Int.mul_comm, Int.add_comm, Int.add_mul_emod_self_right, Int.emod_eq_of_lt h1 h2]
/-- Ten times the number, and what is carried. -/
def mt : Int → List Int → List Int × Int
  | c, [] => ([], c)
  | c, x :: l => ((c + 10 * x) % 1073741824 :: (mt ((c + 10 * x) / 1073741824) l).1, (mt ((c + 10 * x) / 1073741824) l).2)
theorem mt_len : ∀ (c : Int) (L : List Int), (mt c L).1.length = L.length
  | _, [] => rfl
  | c, x :: l => by simp [mt, mt_len _ l]
theorem mt_rg : ∀ (c : Int) (L : List Int), Rg (mt c L).1
  | _, [] => fun x hx => by simp [mt] at hx
  | c, x :: l => fun y hy => by
    simp only [mt, List.mem_cons] at hy
    rcases hy with rfl | hy
    · omega
    · exact mt_rg _ l y hy
theorem mt_carry : ∀ (c : Int) (L : List Int), 0 ≤ c → c ≤ 9 → Rg L → 0 ≤ (mt c L).2 ∧ (mt c L).2 ≤ 9
  | c, [], h0, h9, _ => ⟨h0, h9⟩
  | c, x :: l, h0, h9, h => by
    have := h.cons.1
    exact mt_carry _ l (by omega) (by omega) h.cons.2
theorem mt_val : ∀ (c : Int) (L : List Int), vl ((mt c L).1 ++ [(mt c L).2]) = 10 * vl L + c
  | c, [] => by simp [mt, vl]
  | c, x :: l => by
    have ih := mt_val ((c + 10 * x) / 1073741824) l
    simp only [mt, List.cons_append, vl, ih]; omega
def mul10 (c : Int) (L : List Int) : List Int := if 0 < (mt c L).2 then (mt c L).1 ++ [(mt c L).2] else (mt c L).1
theorem mul10_val (c : Int) (L : List Int) (h0 : 0 ≤ c) (h9 : c ≤ 9) (h : Rg L) : vl (mul10 c L) = 10 * vl L + c := by
  have hc := mt_carry c L h0 h9 h
  have hv := mt_val c L
  unfold mul10
  split
  · exact hv
  · rw [vl_snoc, show (mt c L).2 = 0 by omega] at hv; omega
theorem mul10_rg (c : Int) (L : List Int) (h0 : 0 ≤ c) (h9 : c ≤ 9) (h : Rg L) : Rg (mul10 c L) := by
  have hc := mt_carry c L h0 h9 h
  unfold mul10
  split
  · intro x hx
    rcases List.mem_append.1 hx with hx | hx
    · exact mt_rg c L x hx
    · rw [List.mem_singleton] at hx; omega
  · exact mt_rg c L
theorem mt_last : ∀ (c : Int) (L : List Int), 0 ≤ c → Limbs L → (mt c L).2 = 0 → ∀ x, (mt c L).1.getLast? = some x → x ≠ 0
  | c, [], _, _, _, x, hx => by simp [mt] at hx
  | c, [y], h0, h, hc, x, hx => by
    have h1 := h.rng y (by simp)
    have h2 := h.last y rfl
    simp [mt] at hx hc
    omega
  | c, y :: z :: l, h0, h, hc, x, hx => by
    have h1 := h.rng y (by simp)
    have ih := mt_last ((c + 10 * y) / 1073741824) (z :: l) (by omega) h.tail hc x
    apply ih
    rw [show (mt c (y :: z :: l)).1 = (c + 10 * y) % 1073741824 :: (mt ((c + 10 * y) / 1073741824) (z :: l)).1 from rfl] at hx
    rw [show (mt ((c + 10 * y) / 1073741824) (z :: l)).1 = (((c + 10 * y) / 1073741824) + 10 * z) % 1073741824 :: (mt ((((c + 10 * y) / 1073741824) + 10 * z) / 1073741824) l).1 from rfl] at hx ⊢
    rwa [List.getLast?_cons_cons] at hx
theorem mul10_limbs (c : Int) (L : List Int) (h0 : 0 ≤ c) (h9 : c ≤ 9) (h : Limbs L) : Limbs (mul10 c L) := by
  refine ⟨mul10_rg c L h0 h9 h.rg, ?_⟩
  have hc := mt_carry c L h0 h9 h.rg
  unfold mul10
  split
  · intro x hx
    rw [List.getLast?_concat] at hx
    have := Option.some.inj hx
    omega
  · exact mt_last c L h0 h (by omega)
/-- Reading digit by digit. -/
def rd (l : List UInt8) : List Int := l.foldl (fun L c => mul10 ((c.toNat : Int) - 48) L) []
theorem rd_snoc (l : List UInt8) (c : UInt8) : rd (l ++ [c]) = mul10 ((c.toNat : Int) - 48) (rd l) := by simp [rd]
theorem rd_from : ∀ (l : List UInt8) (L : List Int) (v : Nat), Digs l → Limbs L → vl L = (v : Int) → Limbs (l.foldl (fun L c => mul10 ((c.toNat : Int) - 48) L) L) ∧ vl (l.foldl (fun L c => mul10 ((c.toNat : Int) - 48) L) L) = (l.foldl (fun v c => v * 10 + (c.toNat - 48)) v : Nat)
  | [], L, v, _, hL, hv => ⟨hL, hv⟩
  | c :: l, L, v, h, hL, hv => by
    have hc := h c (by simp)
    simp only [List.foldl_cons]
    refine rd_from l _ _ (fun x hx => h x (by simp [hx])) (mul10_limbs _ _ (by omega) (by omega) hL) ?_
    rw [mul10_val _ _ (by omega) (by omega) hL.rg, hv]; omega
theorem rd_spec (l : List UInt8) (h : Digs l) : Limbs (rd l) ∧ vl (rd l) = (dval l : Int) :=
  rd_from l [] 0 h ⟨fun x hx => by simp at hx, fun x hx => by simp at hx⟩ rfl
/-- The text of a number is read back. -/
theorem rd_dec {L : List Int} (h : Limbs L) : rd (decDigits (vl L).toNat) = L := by
  obtain ⟨h1, h2⟩ := rd_spec _ (dec_digs (vl L).toNat)
  rw [dec_val] at h2
  exact limbs_inj _ _ h1 h (by have := vl_nn L h.rg; omega)
end Nt
end Go.Proofs.YtaaeegjinblpiaaDoor
