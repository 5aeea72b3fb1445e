/- Rows of phases that are swapped in memory. -/
import Derived.Test.YtggfmpkgnphleaaLocAF
import Derived.Test.YtggfmpkgnphleaaMisA
set_option linter.unusedVariables false
set_option linter.unusedSimpArgs false
namespace Go.Proofs.Ytggfmpkgnphleaa
open Go.RowKit
namespace Loc
open Mis
def row6 (o : Ph) : List Value := [.int .i64 o.x, .int .i64 o.y, .int .i64 o.z, .int .i64 o.E, .int .i64 o.L, .int .i64 o.W]
theorem row6_len (o : Ph) : (row6 o).length = 6 := rfl
def gp (L : List Ph) (k : Nat) : Ph := L.getD k ph0
def swp (L : List Ph) (i j : Nat) : List Ph := (L.set i (gp L j)).set j (gp L i)
theorem swp_len (L : List Ph) (i j : Nat) : (swp L i j).length = L.length := by simp [swp]
theorem gp_at {L : List Ph} {k : Nat} (h : k < L.length) : gp L k = L[k] := by simp [gp, List.getD_eq_getElem?_getD, h]
theorem swp_perm {L : List Ph} {i j : Nat} (hi : i < L.length) (hj : j < L.length) : (swp L i j).Perm L := by
  unfold swp
  rw [gp_at hi, gp_at hj]
  exact List.set_set_perm hi hj
theorem row6_all (o : Ph) : (row6 o).toArray.all (·.oneCell') = true := by simp [row6, Value.oneCell']
theorem cellsP_cons (L : List Ph) (o : Ph) : cellsP (o :: L) = row6 o ++ cellsP L := by simp [cellsP, row6]
theorem cells6_get (L : List Ph) : ∀ (k : Nat), k < L.length → ∀ j, j < 6 → (cellsP L)[k * 6 + j]? = (row6 (gp L k))[j]? := by
  induction L with
  | nil => intro k h; simp at h
  | cons q L ih =>
    intro k h j hj
    rw [cellsP_cons]
    cases k with
    | zero => rw [Nat.zero_mul, Nat.zero_add, List.getElem?_append_left (by rw [row6_len]; omega)]; rfl
    | succ k =>
      rw [List.getElem?_append_right (by rw [row6_len]; omega), row6_len, show (k + 1) * 6 + j - 6 = k * 6 + j by omega]
      exact ih k (by simpa using h) j hj
theorem _root_.Go.Proofs.Ytggfmpkgnphleaa.Mis.OwnP.cell6 {w : World} {B b n c : Nat} {L : List Ph} (h : OwnP w B (.slice (some ⟨b, 0, none⟩) n c) L) {k : Nat} (hk : k < L.length) (j : Nat) (u : Value) (hu : (row6 (gp L k))[j]? = some u) : w.cell? ⟨b, k * 6 + j, none⟩ = some u := by
  have hj : j < 6 := by have := (List.getElem?_eq_some_iff.1 hu).1; simpa [row6] using this
  have := World.ownsRow.cells (g := b) h rfl (k * 6 + j) u (by rw [cells6_get L k hk j hj, hu])
  rwa [Addr.add_lit, Nat.zero_add] at this
theorem range6 {w : World} {B b n c : Nat} {L : List Ph} (h : OwnP w B (.slice (some ⟨b, 0, none⟩) n c) L) {k : Nat} (hk : k < L.length) : w.rangeAt b (k * 6) (row6 (gp L k)) := fun j u hu => h.cell6 hk j u hu
theorem there6 {w : World} {B b n c : Nat} {L : List Ph} (h : OwnP w B (.slice (some ⟨b, 0, none⟩) n c) L) {k : Nat} (hk : k < L.length) : w.there b (k * 6) 6 := by
  rcases h.2 with ⟨e1, e⟩ | ⟨b', c', cur, e, hb, hc, hn, hm, hs, ht⟩
  · omega
  · injection e with e1 _ _
    obtain rfl : b = b' := by injection e1 with e1; injection e1
    refine Mid.there hc _ _ ?_
    rw [hs]
    have : (k + 1) * 6 ≤ c' * 6 := Nat.mul_le_mul_right 6 (by omega)
    omega
theorem set6 {w : World} {B b n c : Nat} {L : List Ph} (h : OwnP w B (.slice (some ⟨b, 0, none⟩) n c) L) {k : Nat} (hk : k < L.length) (x : Ph) : OwnP (w.setCells b (k * 6) (row6 x)) B (.slice (some ⟨b, 0, none⟩) n c) (L.set k x) := by
  refine ⟨by rw [cellsP_length, List.length_set], ?_⟩
  rcases h.2 with ⟨e1, e⟩ | ⟨b', c', cur, e, hb, hc, hn, hm, hs, ht⟩
  · omega
  · injection e with e1 e2 e3
    obtain rfl : b = b' := by injection e1 with e1; injection e1
    have kk : (k + 1) * 6 ≤ c' * 6 := Nat.mul_le_mul_right 6 (by omega)
    have kl : (k + 1) * 6 ≤ L.length * 6 := Nat.mul_le_mul_right 6 (by omega)
    refine .inr ⟨b, c', Mid.setMany cur (k * 6) (row6 x), by rw [e2, e3, List.length_set], hb, Mid.heap_set _ _ _ _ _ _ hc, by rw [List.length_set]; exact hn, hm, by rw [setMany_size]; exact hs, ?_⟩
    apply List.ext_getElem?
    intro p
    rw [List.length_set, List.getElem?_take]
    by_cases hp : p < L.length * 6
    · rw [if_pos hp, Array.getElem?_toList, setMany_get _ _ _ _ (by rw [row6_len, hs]; omega), row6_len]
      have hp8 : p / 6 < L.length := by omega
      have e4 : p = p / 6 * 6 + p % 6 := by omega
      have G := cells6_get (L.set k x) (p / 6) (by rw [List.length_set]; exact hp8) (p % 6) (by omega)
      rw [← e4] at G
      rw [G]
      by_cases hkp : p / 6 = k
      · rw [if_pos (by omega), show p - k * 6 = p % 6 by omega, hkp]
        have : gp (L.set k x) k = x := by unfold gp; rw [List.getD_eq_getElem?_getD, List.getElem?_set_self (by omega)]; rfl
        rw [this]
      · rw [if_neg (by omega)]
        have : gp (L.set k x) (p / 6) = gp L (p / 6) := by unfold gp; rw [List.getD_eq_getElem?_getD, List.getElem?_set_ne (by omega), List.getD_eq_getElem?_getD]
        rw [this, ← cells6_get L (p / 6) hp8 (p % 6) (by omega), ← e4, ← ht, List.getElem?_take, if_pos hp, Array.getElem?_toList]
    · rw [if_neg hp]
      exact (List.getElem?_eq_none (by rw [cellsP_length, List.length_set]; omega)).symm
/-- Only the block gq has changed since W. -/
structure Sw (W : World) (gq B n c : Nat) (w : World) (L M : List Ph) : Prop where
  far : W.grownBy w (some gq)
  own : OwnP w B (.slice (some ⟨gq, 0, none⟩) n c) M
  perm : M.Perm L
theorem far_cells {w w' : World} {b : Nat} (h : w.grownBy w' (some b)) (o : Nat) (vs : List Value) : w.grownBy (w'.setCells b o vs) (some b) := grown_cells h o vs
theorem own_form6 {w : World} {B : Nat} {v : Value} {n : Nat} {L : List Ph} (h : w.ownsRow B 37 6 v (0 + n) ([] ++ cellsP L)) (hn : n = L.length) (h0 : 0 < n) : ∃ g c, v = .slice (some ⟨g, 0, none⟩) n c ∧ OwnP w B (.slice (some ⟨g, 0, none⟩) n c) L ∧ n ≤ c ∧ c ≤ maxLen ∧ B ≤ g ∧ g < w.heap.size := by
  rw [Nat.zero_add, List.nil_append] at h
  rcases own_shape h with ⟨_, h1⟩ | ⟨g, c, rfl, h2, h3, h4, h5⟩
  · omega
  · subst hn
    exact ⟨g, c, rfl, h, h2, h3, h5, h4⟩
theorem below_none {w w' : World} (h : w.grownBy w' none) : Below w.heap.size w w' := ⟨h.os, h.tape, h.output, h.size, fun k hk => h.block k hk (by simp)⟩
theorem set_far (w : World) (b o : Nat) (v : Value) : w.grownBy (w.setCell ⟨b, o, none⟩ v) (some b) :=
  ⟨rfl, rfl, rfl, by rw [World.size_setCell]; exact Nat.le_refl _, fun k hk hne => Below.heap_setCell w ⟨b, o, none⟩ v k (fun e => hne (by rw [e]))⟩
theorem far_trans {w w1 w2 : World} {q : Option Nat} (h : w.grownBy w1 q) (k : w1.grownBy w2 q) : w.grownBy w2 q := h.trans k
theorem Sw.below {W w w' : World} {gq B n c : Nat} {L M : List Ph} (h : Sw W gq B n c w L M) (hb : Below w.heap.size w w') : Sw W gq B n c w' L M := ⟨h.far.trans (grown_low hb), own_below h.own hb, h.perm⟩
theorem Sw.swap {W w w' : World} {gq B n c : Nat} {L M : List Ph} (h : Sw W gq B n c w L M) {i j : Nat} (hi : i < M.length) (hj : j < M.length) (hb : Below w.heap.size w w') : Sw W gq B n c ((w'.setCells gq (i * 6) (row6 (gp M j))).setCells gq (j * 6) (row6 (gp M i))) L (swp M i j) := by
  have k := h.below hb
  exact ⟨grown_cells (grown_cells k.far _ _) _ _, set6 (set6 k.own hi _) (by rw [List.length_set]; exact hj) _, (swp_perm hi hj).trans k.perm⟩
theorem there_set6 {w : World} {b o n : Nat} (h : w.there b o n) (o' : Nat) (vs : List Value) : (w.setCells b o' vs).there b o n := there_set h o' vs
theorem cell_set6 {w : World} {b : Nat} (o' : Nat) (vs : List Value) {p o : Nat} (h : p ≠ b) {v : Value} (hc : w.cell? ⟨p, o, none⟩ = some v) : (w.setCells b o' vs).cell? ⟨p, o, none⟩ = some v := by
  rw [World.cell?_of_block (a := ⟨p, o, none⟩) (Mid.other b p h vs o' w)]; exact hc
end Loc
end Go.Proofs.Ytggfmpkgnphleaa
