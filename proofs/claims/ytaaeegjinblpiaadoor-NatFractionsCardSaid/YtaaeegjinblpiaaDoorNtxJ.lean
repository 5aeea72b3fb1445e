/- Addition, subtraction and multiplication of limbs: mathematics. -/
import Derived.Test.YtaaeegjinblpiaaDoorNtxC
import Derived.Test.YtaaeegjinblpiaaDoorNtxX
set_option linter.unusedVariables false
set_option linter.unusedSimpArgs false
namespace Go.Proofs.YtaaeegjinblpiaaDoor
open Go.RowKit
namespace Nt
theorem vl_rep (n : Nat) : vl (List.replicate n 0) = 0 := by
  induction n with
  | zero => rfl
  | succ n ih => rw [List.replicate_succ, vl, ih]; rfl
theorem rg_rep (n : Nat) : Rg (List.replicate n 0) := fun x hx => by
  rw [List.mem_replicate] at hx; omega
theorem vl_take (L : List Int) (k : Nat) : vl (L.take (k + 1)) = vl (L.take k) + L.getD k 0 * 1073741824 ^ k := by
  by_cases h : k < L.length
  · have e : L.take (k + 1) = L.take k ++ [L[k]] := List.take_succ_eq_append_getElem h
    rw [e, vl_snoc, List.length_take, Nat.min_eq_left (by omega)]
    simp [List.getD, h]
  · rw [List.take_of_length_le (by omega), List.take_of_length_le (by omega)]
    simp [List.getD, show L.length ≤ k by omega]
theorem vl_set : ∀ (L : List Int) (j : Nat) (x y : Int), L[j]? = some y → vl (L.set j x) = vl L + (x - y) * 1073741824 ^ j
  | [], j, x, y, h => by simp at h
  | z :: l, 0, x, y, h => by
    simp at h; subst h
    simp [vl]; omega
  | z :: l, j + 1, x, y, h => by
    have ih := vl_set l j x y (by simpa using h)
    simp only [List.set_cons_succ, vl, ih, Int.pow_succ]
    grind
theorem rg_set {L : List Int} (h : Rg L) (j : Nat) (x : Int) (h0 : 0 ≤ x) (h1 : x ≤ 1073741823) : Rg (L.set j x) := fun y hy => by
  rcases List.mem_or_eq_of_mem_set hy with h2 | rfl
  · exact h y h2
  · exact ⟨h0, h1⟩
theorem rg_getD {L : List Int} (h : Rg L) (j : Nat) : 0 ≤ L.getD j 0 ∧ L.getD j 0 ≤ 1073741823 := by
  by_cases hj : j < L.length
  · have e : L.getD j 0 = L[j] := by simp [List.getD, hj]
    rw [e]; exact h _ (List.getElem_mem _)
  · have e : L.getD j 0 = 0 := by simp [List.getD, show L.length ≤ j by omega]
    rw [e]; omega
theorem set_end (R : List Int) (m : Nat) (v : Int) (k : Nat) (hk : R.length = k) : (R ++ List.replicate (m + 1) 0).set k v = (R ++ [v]) ++ List.replicate m 0 := by
  rw [List.set_append_right _ _ (by omega), List.replicate_succ, hk, Nat.sub_self, List.set_cons_zero, List.append_assoc]; rfl
/-- A sum, k limbs of it done. -/
structure Ad (L M R : List Int) (c : Int) (k : Nat) : Prop where
  len : R.length = k
  rg : Rg R
  c0 : 0 ≤ c
  c1 : c ≤ 1
  eq : vl R + c * 1073741824 ^ k = vl (L.take k) + vl (M.take k)
theorem Ad.start (L M : List Int) : Ad L M [] 0 0 := ⟨rfl, fun x hx => (by cases hx), by omega, by omega, by simp [vl]⟩
theorem Ad.step {L M R : List Int} {c : Int} {k : Nat} (h : Ad L M R c k) (x y : Int) (hx : x = L.getD k 0) (hy : y = M.getD k 0) (x0 : 0 ≤ x) (x1 : x ≤ 1073741823) (y0 : 0 ≤ y) (y1 : y ≤ 1073741823) :
    Ad L M (R ++ [(c + x + y) % 1073741824]) ((c + x + y) / 1073741824) (k + 1) := by
  have := h.c0
  have := h.c1
  refine ⟨by simp [h.len], fun z hz => ?_, by omega, by omega, ?_⟩
  · rcases List.mem_append.1 hz with hz | hz
    · exact h.rg z hz
    · rw [List.mem_singleton] at hz; omega
  · rw [vl_snoc, h.len, vl_take, vl_take, ← hx, ← hy, Int.pow_succ]
    have e := h.eq
    have d := Int.mul_ediv_add_emod (c + x + y) 1073741824
    generalize (c + x + y) % 1073741824 = r at *
    generalize (c + x + y) / 1073741824 = q at *
    generalize (1073741824 : Int) ^ k = P at *
    generalize vl R = a at *
    generalize vl (L.take k) = b at *
    generalize vl (M.take k) = e at *
    have : a + r * P + q * (P * 1073741824) = a + (1073741824 * q + r) * P := by grind
    rw [this, d]; grind
theorem Ad.done {L M R : List Int} {c : Int} {k : Nat} (h : Ad L M R c k) (hl : L.length ≤ k) (hm : M.length ≤ k) : Rg (R ++ [c]) ∧ vl (R ++ [c]) = vl L + vl M := by
  have := h.c0
  have := h.c1
  refine ⟨fun z hz => ?_, ?_⟩
  · rcases List.mem_append.1 hz with hz | hz
    · exact h.rg z hz
    · rw [List.mem_singleton] at hz; omega
  · have e := h.eq
    rw [List.take_of_length_le hl, List.take_of_length_le hm] at e
    rw [vl_snoc, h.len]; exact e
/-- A difference, k limbs of it done. -/
structure Sb (L M R : List Int) (c : Int) (k : Nat) : Prop where
  len : R.length = k
  rg : Rg R
  c0 : 0 ≤ c
  c1 : c ≤ 1
  eq : vl R - c * 1073741824 ^ k = vl (L.take k) - vl (M.take k)
theorem Sb.start (L M : List Int) : Sb L M [] 0 0 := ⟨rfl, fun x hx => (by cases hx), by omega, by omega, by simp [vl]⟩
theorem Sb.step {L M R : List Int} {c : Int} {k : Nat} (h : Sb L M R c k) (x y v b : Int) (hx : x = L.getD k 0) (hy : y = M.getD k 0) (hv : v = x - c - y + b * 1073741824) (v0 : 0 ≤ v) (v1 : v ≤ 1073741823) (b0 : 0 ≤ b) (b1 : b ≤ 1) :
    Sb L M (R ++ [v]) b (k + 1) := by
  refine ⟨by simp [h.len], fun z hz => ?_, by omega, by omega, ?_⟩
  · rcases List.mem_append.1 hz with hz | hz
    · exact h.rg z hz
    · rw [List.mem_singleton] at hz; omega
  · rw [vl_snoc, h.len, vl_take, vl_take, ← hx, ← hy, Int.pow_succ]
    have e := h.eq
    generalize (1073741824 : Int) ^ k = P at *
    generalize vl R = a at *
    subst hv
    grind
theorem Sb.done {L M R : List Int} {c : Int} {k : Nat} (h : Sb L M R c k) (hl : L.length ≤ k) (hm : M.length ≤ k) (hle : vl M ≤ vl L) : vl R = vl L - vl M := by
  have := h.c0
  have := h.c1
  have e := h.eq
  have hr := vl_lt R h.rg
  rw [h.len] at hr
  rw [List.take_of_length_le hl, List.take_of_length_le hm] at e
  rcases (show c = 0 ∨ c = 1 by omega) with rfl | rfl
  · omega
  · omega
/-- A product: the rows of i limbs are added up. -/
structure Mo (L M W : List Int) (i : Nat) : Prop where
  len : W.length = L.length + M.length
  rg : Rg W
  zero : ∀ j, i + M.length ≤ j → W.getD j 0 = 0
  eq : vl W = vl (L.take i) * vl M
theorem Mo.start (L M : List Int) : Mo L M (List.replicate (L.length + M.length) 0) 0 :=
  ⟨by simp, rg_rep _, fun j hj => by simp only [List.getD, List.getElem?_replicate]; split <;> rfl, by rw [vl_rep]; simp [vl]⟩
structure Mi (L M W : List Int) (i k : Nat) (x c : Int) : Prop where
  len : W.length = L.length + M.length
  rg : Rg W
  zero : ∀ j, i + M.length ≤ j → W.getD j 0 = 0
  c0 : 0 ≤ c
  c1 : c ≤ 1073741823
  eq : vl W + c * 1073741824 ^ (i + k) = vl (L.take i) * vl M + x * 1073741824 ^ i * vl (M.take k)
theorem Mo.inner {L M W : List Int} {i : Nat} (h : Mo L M W i) (x : Int) : Mi L M W i 0 x 0 := ⟨h.len, h.rg, h.zero, by omega, by omega, by rw [h.eq]; simp [vl]⟩
theorem Mi.step {L M W : List Int} {i k : Nat} {x c : Int} (h : Mi L M W i k x c) (y p : Int) (hy : y = M.getD k 0) (hk : k < M.length) (hi : i < L.length) (hp : W[i + k]? = some p) (x0 : 0 ≤ x) (x1 : x ≤ 1073741823) (y0 : 0 ≤ y) (y1 : y ≤ 1073741823) :
    Mi L M (W.set (i + k) ((c + (p + x * y)) % 1073741824)) i (k + 1) x ((c + (p + x * y)) / 1073741824) := by
  have := h.c0
  have := h.c1
  have p0 := h.rg p (List.mem_of_getElem? hp)
  have xy0 : 0 ≤ x * y := Int.mul_nonneg x0 y0
  have xy1 : x * y ≤ 1073741823 * 1073741823 := Int.mul_le_mul x1 y1 y0 (by omega)
  refine ⟨by rw [List.length_set]; exact h.len, rg_set h.rg _ _ (by omega) (by omega), fun j hj => ?_, by omega, by omega, ?_⟩
  · have e := h.zero j hj
    rw [List.getD_eq_getElem?_getD, List.getElem?_set_ne (by omega), ← List.getD_eq_getElem?_getD]; exact e
  · rw [vl_set _ _ _ _ hp, vl_take, ← hy, ← Nat.add_assoc, Int.pow_succ]
    have e := h.eq
    have d := Int.mul_ediv_add_emod (c + (p + x * y)) 1073741824
    have e2 : (1073741824 : Int) ^ (i + k) = 1073741824 ^ i * 1073741824 ^ k := Int.pow_add ..
    generalize (c + (p + x * y)) % 1073741824 = r at *
    generalize (c + (p + x * y)) / 1073741824 = q at *
    rw [e2] at e ⊢
    generalize (1073741824 : Int) ^ i = P at *
    generalize (1073741824 : Int) ^ k = Q at *
    generalize vl W = a at *
    generalize vl (M.take k) = m at *
    generalize vl (L.take i) * vl M = b at *
    have d2 : r - p + q * 1073741824 = c + x * y := by omega
    have : a + (r - p) * (P * Q) + q * (P * Q * 1073741824) = a + (r - p + q * 1073741824) * (P * Q) := by grind
    rw [this, d2]; grind
theorem Mi.done {L M W : List Int} {i : Nat} {x c : Int} (h : Mi L M W i M.length x c) (hx : x = L.getD i 0) (hi : i < L.length) : Mo L M (W.set (i + M.length) c) (i + 1) := by
  have hz := h.zero (i + M.length) (Nat.le_refl _)
  have hl : i + M.length < W.length := by rw [h.len]; omega
  have hp : W[i + M.length]? = some 0 := by
    rw [List.getElem?_eq_getElem hl]
    rw [List.getD_eq_getElem?_getD, List.getElem?_eq_getElem hl] at hz
    simpa using hz
  refine ⟨by rw [List.length_set]; exact h.len, rg_set h.rg _ _ h.c0 h.c1, fun j hj => ?_, ?_⟩
  · have e := h.zero j (by omega)
    rw [List.getD_eq_getElem?_getD, List.getElem?_set_ne (by omega), ← List.getD_eq_getElem?_getD]; exact e
  · rw [vl_set _ _ _ _ hp, vl_take, ← hx]
    have e := h.eq
    rw [List.take_length] at e
    have e2 : (1073741824 : Int) ^ (i + M.length) = 1073741824 ^ i * 1073741824 ^ M.length := Int.pow_add ..
    rw [Int.sub_zero, e]; grind
theorem Mo.done {L M W : List Int} (h : Mo L M W L.length) : vl W = vl L * vl M := by
  have e := h.eq
  rw [List.take_length] at e; exact e
/-- What a trimmed row is. -/
theorem tr_is {R S : List Int} (h : Rg R) (hS : Limbs S) (e : vl R = vl S) : tr R = S := limbs_inj _ _ (tr_limbs R h) hS (by rw [tr_val, e])
end Nt
end Go.Proofs.YtaaeegjinblpiaaDoor
