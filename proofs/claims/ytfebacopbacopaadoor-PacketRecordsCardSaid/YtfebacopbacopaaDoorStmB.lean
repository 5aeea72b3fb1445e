/- Frames as words, words as bytes: mathematics. -/
import Derived.Test.YtfebacopbacopaaDoorStmA
set_option linter.unusedVariables false
set_option linter.unusedSimpArgs false
namespace Go.Proofs.YtfebacopbacopaaDoor
open Go.RowKit
namespace St
def be4 (v : Int) : List UInt8 := Ma.beTo v.toNat 4 0
theorem be4_length (v : Int) : (be4 v).length = 4 := by unfold be4; rw [Ma.beTo_length]
theorem be4_zero : be4 0 = List.replicate 4 0 := by decide
theorem gv_be4 (v : Int) (h0 : 0 ≤ v) (h1 : v ≤ 4294967295) : ((Ma.gv (be4 v) : Nat) : Int) = v := by
  have h := Ma.gv_be v.toNat 4 (by have : (2 : Nat) ^ (8 * 4) = 4294967296 := by decide
                                   omega) 4 0 (by omega)
  unfold be4
  rw [h]; simp; omega
/-- Words as bytes. -/
def bys (A : List Int) : List UInt8 := A.flatMap be4
theorem bys_length (A : List Int) : (bys A).length = 4 * A.length := by
  induction A with
  | nil => rfl
  | cons x l ih =>
    show (be4 x ++ bys l).length = _
    rw [List.length_append, be4_length, ih, List.length_cons]; omega
theorem bys_append (A C : List Int) : bys (A ++ C) = bys A ++ bys C := by simp [bys]
theorem bys_take (A : List Int) (k : Nat) : (bys A).take (4 * k) = bys (A.take k) := by
  induction A generalizing k with
  | nil => simp [bys]
  | cons x l ih =>
    cases k with
    | zero => simp [bys]
    | succ k =>
      show (be4 x ++ bys l).take (4 * (k + 1)) = be4 x ++ bys (l.take k)
      rw [List.take_append, be4_length, List.take_of_length_le (by rw [be4_length]; omega), ← ih k]
      congr 2
theorem bys_drop (A : List Int) (k : Nat) : (bys A).drop (4 * k) = bys (A.drop k) := by
  induction A generalizing k with
  | nil => simp [bys]
  | cons x l ih =>
    cases k with
    | zero => simp [bys]
    | succ k =>
      show (be4 x ++ bys l).drop (4 * (k + 1)) = bys (l.drop k)
      rw [List.drop_append, be4_length, List.drop_eq_nil_of_le (by rw [be4_length]; omega), List.nil_append, ← ih k]
      congr 1
theorem bys_word (A : List Int) (k : Nat) (h : k < A.length) : ((bys A).drop (4 * k)).take 4 = be4 (A.getD k 0) := by
  rw [bys_drop]
  have e : A.drop k = A[k] :: A.drop (k + 1) := List.drop_eq_getElem_cons h
  rw [e]
  show (be4 _ ++ bys _).take 4 = _
  rw [List.take_append, be4_length, Nat.sub_self, List.take_zero, List.append_nil, List.take_of_length_le (by rw [be4_length]; omega)]
  simp [List.getD, h]
/-- Words are numbers of 32 bits. -/
def A32 (A : List Int) : Prop := ∀ x ∈ A, 0 ≤ x ∧ x ≤ 4294967295
theorem A32.getD {A : List Int} (h : A32 A) (k : Nat) : 0 ≤ A.getD k 0 ∧ A.getD k 0 ≤ 4294967295 := by
  by_cases hk : k < A.length
  · have e : A.getD k 0 = A[k] := by simp [List.getD, hk]
    rw [e]; exact h _ (List.getElem_mem _)
  · have e : A.getD k 0 = 0 := by simp [List.getD, show A.length ≤ k by omega]
    rw [e]; omega
theorem word_val (A : List Int) (hA : A32 A) (k : Nat) (h : k < A.length) : ((Ma.gv (((bys A).drop (4 * k)).take 4) : Nat) : Int) = A.getD k 0 := by
  rw [bys_word A k h, gv_be4 _ (hA.getD k).1 (hA.getD k).2]
/-- The word of codes, k words of it done. -/
def hdk (c : List (Nat × Int)) : Nat → Int
  | 0 => 0
  | k + 1 => Ma.setPr (hdk c k) (14 - k) ((c.getD k (0, 0)).1 : Nat)
theorem code_le {c : List (Nat × Int)} (h : ∀ p ∈ c, WOk p) (k : Nat) : (c.getD k (0, 0)).1 ≤ 3 ∧ 0 ≤ (c.getD k (0, 0)).2 ∧ (c.getD k (0, 0)).2 ≤ 4294967295 := by
  by_cases hk : k < c.length
  · have e : c.getD k (0, 0) = c[k] := by simp [List.getD, hk]
    rw [e]; exact h _ (List.getElem_mem _)
  · have e : c.getD k (0, 0) = (0, 0) := by simp [List.getD, show c.length ≤ k by omega]
    rw [e]; simp
theorem hdk_rng {c : List (Nat × Int)} (h : ∀ p ∈ c, WOk p) : ∀ k, 0 ≤ hdk c k ∧ hdk c k ≤ 4294967295
  | 0 => by simp [hdk]
  | k + 1 => by
    have ih := hdk_rng h k
    have hc := (code_le h k).1
    exact Ma.setPr_rng _ _ _ (by omega) ih.1 ih.2 (by omega) (by omega)
theorem pr_zero (j : Nat) : Ma.pr 0 j = 0 := by unfold Ma.pr; simp
/-- The pairs of the word of codes. -/
theorem hdk_pr {c : List (Nat × Int)} (h : ∀ p ∈ c, WOk p) : ∀ (k : Nat), k ≤ 15 → ∀ i, i ≤ 15 → Ma.pr (hdk c k) (15 - i) = if 1 ≤ i ∧ i ≤ k then ((c.getD (i - 1) (0, 0)).1 : Int) else 0
  | 0, _, i, hi => by
    rw [if_neg (by omega)]; exact pr_zero _
  | k + 1, hk, i, hi => by
    have ih := hdk_pr h k (by omega) i hi
    have hc := (code_le h k).1
    show Ma.pr (Ma.setPr (hdk c k) (14 - k) ((c.getD k (0, 0)).1 : Nat)) (15 - i) = _
    by_cases e : i = k + 1
    · subst e
      rw [show 15 - (k + 1) = 14 - k by omega, Ma.pr_set_same _ _ _ (by omega) (by omega), if_pos (by omega), Nat.add_sub_cancel]
    · rw [Ma.pr_set_other _ _ _ _ (by omega) (by omega) (by omega), ih]
      by_cases e2 : 1 ≤ i ∧ i ≤ k
      · rw [if_pos e2, if_pos (by omega)]
      · rw [if_neg e2, if_neg (by omega)]
/-- The 16 words of a frame. -/
def fw (c : List (Nat × Int)) : List Int := hdk c c.length :: (c.map (·.2) ++ List.replicate (15 - c.length) 0)
theorem fw_length (c : List (Nat × Int)) (h : c.length ≤ 15) : (fw c).length = 16 := by simp [fw]; omega
theorem fw_32 {c : List (Nat × Int)} (h : ∀ p ∈ c, WOk p) : A32 (fw c) := fun x hx => by
  rcases List.mem_cons.1 hx with rfl | hx
  · exact hdk_rng h _
  · rcases List.mem_append.1 hx with hx | hx
    · obtain ⟨p, hp, rfl⟩ := List.mem_map.1 hx
      exact (h p hp).2
    · rw [List.mem_replicate] at hx; omega
theorem fw_get (c : List (Nat × Int)) (i : Nat) : (fw c).getD (i + 1) 0 = (c.getD i (0, 0)).2 := by
  unfold fw
  rw [List.getD_cons_succ]
  by_cases h : i < c.length
  · rw [List.getD_eq_getElem?_getD, List.getElem?_append_left (by simpa using h), List.getElem?_map, List.getD_eq_getElem?_getD, List.getElem?_eq_getElem h]; rfl
  · rw [List.getD_eq_getElem?_getD, List.getElem?_append_right (by simpa using h), List.getElem?_replicate, List.getD_eq_getElem?_getD, List.getElem?_eq_none (by omega)]
    split <;> rfl
theorem fw_pr {c : List (Nat × Int)} (h : ∀ p ∈ c, WOk p) (hl : c.length ≤ 15) (i : Nat) (hi : i < 15) : Ma.pr ((fw c).getD 0 0) (15 - (i + 1)) = ((c.getD i (0, 0)).1 : Int) := by
  show Ma.pr (hdk c c.length) _ = _
  rw [hdk_pr h _ hl _ (by omega)]
  by_cases e : i < c.length
  · rw [if_pos (by omega), Nat.add_sub_cancel]
  · rw [if_neg (by omega)]
    simp [List.getD, show c.length ≤ i by omega]
theorem fw_pr0 {c : List (Nat × Int)} (h : ∀ p ∈ c, WOk p) (hl : c.length ≤ 15) : Ma.pr ((fw c).getD 0 0) 15 = 0 := by
  show Ma.pr (hdk c c.length) _ = _
  have := hdk_pr h _ hl 0 (by omega)
  rw [this, if_neg (by omega)]
/-- The bytes of a frame as they are put. -/
theorem fw_bys (c : List (Nat × Int)) (h : c.length ≤ 15) : bys (fw c) = be4 (hdk c c.length) ++ bys (c.map (·.2)) ++ List.replicate (60 - 4 * c.length) 0 := by
  have z : ∀ n, bys (List.replicate n 0) = List.replicate (4 * n) 0 := by
    intro n
    induction n with
    | zero => rfl
    | succ n ih =>
      rw [List.replicate_succ]
      show be4 0 ++ bys _ = _
      rw [ih, be4_zero, List.replicate_append_replicate]; congr 1; omega
  show be4 _ ++ bys (_ ++ _) = _
  rw [bys_append, z, List.append_assoc, show 4 * (15 - c.length) = 60 - 4 * c.length by omega]
/-- The words of so many frames. -/
def allw : Nat → List (Nat × Int) → List Int
  | 0, _ => []
  | n + 1, ws => fw (ws.take 15) ++ allw n (ws.drop 15)
theorem take15 (ws : List (Nat × Int)) : (ws.take 15).length ≤ 15 := by rw [List.length_take]; omega
theorem allw_length (n : Nat) : ∀ ws, (allw n ws).length = 16 * n := by
  induction n with
  | zero => intro ws; rfl
  | succ n ih => intro ws; simp only [allw, List.length_append, fw_length _ (take15 ws), ih]; omega
theorem allw_32 (n : Nat) : ∀ ws, (∀ p ∈ ws, WOk p) → A32 (allw n ws) := by
  induction n with
  | zero => intro ws _ x hx; cases hx
  | succ n ih =>
    intro ws h x hx
    rcases List.mem_append.1 hx with hx | hx
    · exact fw_32 (fun p hp => h p (List.mem_of_mem_take hp)) x hx
    · exact ih _ (fun p hp => h p (List.mem_of_mem_drop hp)) x hx
theorem allw_get (n : Nat) : ∀ (ws : List (Nat × Int)) (q i : Nat), q < n → i < 16 → (allw n ws).getD (16 * q + i) 0 = (fw ((ws.drop (15 * q)).take 15)).getD i 0 := by
  induction n with
  | zero => intro ws q i h; omega
  | succ n ih =>
    intro ws q i hq hi
    have hl := fw_length _ (take15 ws)
    cases q with
    | zero =>
      simp only [allw, Nat.mul_zero, Nat.zero_add, List.drop_zero]
      rw [List.getD_eq_getElem?_getD, List.getElem?_append_left (by omega), ← List.getD_eq_getElem?_getD]
    | succ q =>
      have e : 16 * (q + 1) + i = (16 * q + i) + 16 := by omega
      simp only [allw]
      rw [List.getD_eq_getElem?_getD, List.getElem?_append_right (by omega), hl, e, Nat.add_sub_cancel, ← List.getD_eq_getElem?_getD, ih _ q i (by omega) hi, List.drop_drop]
      congr 4; omega
/-- The code and the value of word j of words A, as they are read. -/
def rw_ (A : List Int) (j : Nat) : Nat × Int := ((Ma.pr (A.getD (16 * (j / 16)) 0) (15 - j % 16)).toNat, A.getD j 0)
/-- The differences of the first n words. -/
def UN (A : List Int) (n : Nat) : List Int := (List.range n).flatMap fun j => un (rw_ A j)
theorem UN_succ (A : List Int) (n : Nat) : UN A (n + 1) = UN A n ++ un (rw_ A n) := by simp [UN, List.range_succ]
theorem rw_allw (n : Nat) (ws : List (Nat × Int)) (h : ∀ p ∈ ws, WOk p) (q i : Nat) (hq : q < n) (hi : i < 15) : rw_ (allw n ws) (16 * q + (i + 1)) = ws.getD (15 * q + i) (0, 0) := by
  have hc : ∀ p ∈ (ws.drop (15 * q)).take 15, WOk p := fun p hp => h p (List.mem_of_mem_drop (List.mem_of_mem_take hp))
  have e1 : (16 * q + (i + 1)) / 16 = q := by omega
  have e2 : (16 * q + (i + 1)) % 16 = i + 1 := by omega
  have g0 : (allw n ws).getD (16 * q) 0 = _ := allw_get n ws q 0 hq (by omega)
  have g1 := allw_get n ws q (i + 1) hq (by omega)
  have e3 : ((ws.drop (15 * q)).take 15).getD i (0, 0) = ws.getD (15 * q + i) (0, 0) := by
    rw [List.getD_eq_getElem?_getD, List.getElem?_take_of_lt hi, List.getElem?_drop, ← List.getD_eq_getElem?_getD]
  unfold rw_
  rw [e1, e2, g0, g1, fw_get, fw_pr hc (take15 _) i hi, e3]
  rfl
theorem rw_head (n : Nat) (ws : List (Nat × Int)) (h : ∀ p ∈ ws, WOk p) (q : Nat) (hq : q < n) : (rw_ (allw n ws) (16 * q)).1 = 0 := by
  have hc : ∀ p ∈ (ws.drop (15 * q)).take 15, WOk p := fun p hp => h p (List.mem_of_mem_drop (List.mem_of_mem_take hp))
  have e1 : (16 * q) / 16 = q := by omega
  have e2 : (16 * q) % 16 = 0 := by omega
  have g0 : (allw n ws).getD (16 * q) 0 = _ := allw_get n ws q 0 hq (by omega)
  unfold rw_
  rw [e1, e2, g0]
  show (Ma.pr _ (15 - 0)).toNat = 0
  rw [Nat.sub_zero, fw_pr0 hc (take15 _)]; rfl
theorem un_code0 {p : Nat × Int} (h : p.1 = 0) : un p = [] := by unfold un; rw [h]; rfl
theorem take_getD (ws : List (Nat × Int)) (k : Nat) : (ws.take (k + 1)).flatMap un = (ws.take k).flatMap un ++ un (ws.getD k (0, 0)) := by
  by_cases h : k < ws.length
  · have e : ws.take (k + 1) = ws.take k ++ [ws[k]] := List.take_succ_eq_append_getElem h
    rw [e, List.flatMap_append]
    simp [List.getD, h]
  · rw [List.take_of_length_le (by omega), List.take_of_length_le (by omega)]
    have e : ws.getD k (0, 0) = (0, 0) := by simp [List.getD, show ws.length ≤ k by omega]
    rw [e, un_none, List.append_nil]
theorem UN_allw (n : Nat) (ws : List (Nat × Int)) (h : ∀ p ∈ ws, WOk p) : ∀ q, q ≤ n → UN (allw n ws) (16 * q) = (ws.take (15 * q)).flatMap un := by
  intro q
  induction q with
  | zero => intro _; rfl
  | succ q ih =>
    intro hq
    have ih := ih (by omega)
    have key : ∀ i, i ≤ 15 → UN (allw n ws) (16 * q + (i + 1)) = (ws.take (15 * q + i)).flatMap un := by
      intro i
      induction i with
      | zero => intro _; rw [UN_succ, ih, un_code0 (rw_head n ws h q (by omega)), List.append_nil]; rfl
      | succ i ih2 =>
        intro hi
        rw [show 16 * q + (i + 1 + 1) = (16 * q + (i + 1)) + 1 by omega, UN_succ, ih2 (by omega), rw_allw n ws h q i (by omega) (by omega)]
        exact (take_getD ws (15 * q + i)).symm
    have := key 15 (Nat.le_refl _)
    rw [show 16 * (q + 1) = 16 * q + (15 + 1) by omega, this]; congr 2
end St
end Go.Proofs.YtfebacopbacopaaDoor
