/- Comparing identifiers; slices.Compact of identifiers. -/
import Derived.Test.YtppbejebmlcloaaDoorSrcT
import Derived.Laws.StructEq
import Derived.BigQuiet
set_option linter.unusedVariables false
set_option linter.unusedSimpArgs false
namespace Go.Proofs.YtppbejebmlcloaaDoor
open Go.RowKit Dice
namespace Sc
abbrev vQ (p : Q4) : Value := .agg #[.string ⟨⟨p.1⟩⟩, .string ⟨⟨p.2.1⟩⟩, .string ⟨⟨p.2.2.1⟩⟩, .string ⟨⟨p.2.2.2⟩⟩]
theorem eqQ (a b c d a' b' c' d' : List UInt8) (w : World) : (binOp .eql 28 (.agg #[.string ⟨⟨a⟩⟩, .string ⟨⟨b⟩⟩, .string ⟨⟨c⟩⟩, .string ⟨⟨d⟩⟩]) (.agg #[.string ⟨⟨a'⟩⟩, .string ⟨⟨b'⟩⟩, .string ⟨⟨c'⟩⟩, .string ⟨⟨d'⟩⟩])).run Tryd.prog w = .ok (.bool (decide ((a, b, c, d) = (a', b', c', d')))) w := by
  by_cases h0 : a = a'
  · subst h0
    by_cases h1 : b = b'
    · subst h1
      by_cases h2 : c = c'
      · subst h2
        by_cases h3 : d = d'
        · subst h3
          go_simp
        · have e : (d == d') = false := beq_eq_false_iff_ne.2 h3
          go_simp
      · have e : (c == c') = false := beq_eq_false_iff_ne.2 h2
        go_simp
    · have e : (b == b') = false := beq_eq_false_iff_ne.2 h1
      go_simp
  · have e : (a == a') = false := beq_eq_false_iff_ne.2 h0
    go_simp
theorem neQ (a b c d a' b' c' d' : List UInt8) (w : World) : (binOp .neq 28 (.agg #[.string ⟨⟨a⟩⟩, .string ⟨⟨b⟩⟩, .string ⟨⟨c⟩⟩, .string ⟨⟨d⟩⟩]) (.agg #[.string ⟨⟨a'⟩⟩, .string ⟨⟨b'⟩⟩, .string ⟨⟨c'⟩⟩, .string ⟨⟨d'⟩⟩])).run Tryd.prog w = .ok (.bool (!decide ((a, b, c, d) = (a', b', c', d')))) w := by
  by_cases h0 : a = a'
  · subst h0
    by_cases h1 : b = b'
    · subst h1
      by_cases h2 : c = c'
      · subst h2
        by_cases h3 : d = d'
        · subst h3
          go_simp
        · have e : (d == d') = false := beq_eq_false_iff_ne.2 h3
          go_simp
      · have e : (c == c') = false := beq_eq_false_iff_ne.2 h2
        go_simp
    · have e : (b == b') = false := beq_eq_false_iff_ne.2 h1
      go_simp
  · have e : (a == a') = false := beq_eq_false_iff_ne.2 h0
    go_simp
/-- The cells of the k-th identifier of an own row. -/
theorem own_at {w : World} {B g n c : Nat} {xs : List Value} (O : w.ownsRow B 28 4 (.slice (some ⟨g, 0, none⟩) n c) n xs) (k : Nat) (hk : k < n) (p : Q4) (h0 : xs[k * 4]? = some (.string ⟨⟨p.1⟩⟩)) (h1 : xs[k * 4 + 1]? = some (.string ⟨⟨p.2.1⟩⟩)) (h2 : xs[k * 4 + 2]? = some (.string ⟨⟨p.2.2.1⟩⟩)) (h3 : xs[k * 4 + 3]? = some (.string ⟨⟨p.2.2.2⟩⟩)) :
    w.cell? ⟨g, k * 4, none⟩ = some (.string ⟨⟨p.1⟩⟩) ∧ w.cell? ⟨g, k * 4 + 1, none⟩ = some (.string ⟨⟨p.2.1⟩⟩) ∧ w.cell? ⟨g, k * 4 + 2, none⟩ = some (.string ⟨⟨p.2.2.1⟩⟩) ∧ w.cell? ⟨g, k * 4 + 3, none⟩ = some (.string ⟨⟨p.2.2.2⟩⟩) :=
  ⟨(O.cellAt _ (by omega)).trans h0, (O.cellAt _ (by omega)).trans h1, (O.cellAt _ (by omega)).trans h2, (O.cellAt _ (by omega)).trans h3⟩
/-- The row while Compact is at work: what is kept, then what was there. -/
def mixQ (C L : List Q4) : List Value := cQ C ++ (cQ L).drop (C.length * 4)
theorem mixQ_len (C L : List Q4) (h : C.length ≤ L.length) : (mixQ C L).length = L.length * 4 := by
  unfold mixQ; rw [List.length_append, List.length_drop, cQ_length, cQ_length]; omega
theorem mixQ_get (C L : List Q4) (k : Nat) (hk : C.length ≤ k) (p : Q4) (hp : L[k]? = some p) :
    (mixQ C L)[k * 4]? = some (.string ⟨⟨p.1⟩⟩) ∧ (mixQ C L)[k * 4 + 1]? = some (.string ⟨⟨p.2.1⟩⟩) ∧ (mixQ C L)[k * 4 + 2]? = some (.string ⟨⟨p.2.2.1⟩⟩) ∧ (mixQ C L)[k * 4 + 3]? = some (.string ⟨⟨p.2.2.2⟩⟩) := by
  have h : ∀ j, C.length * 4 ≤ j → (mixQ C L)[j]? = (cQ L)[j]? := fun j hj => by
    unfold mixQ
    rw [List.getElem?_append_right (by rw [cQ_length]; exact hj), List.getElem?_drop, cQ_length]
    congr 1; omega
  obtain ⟨a, b, c, d⟩ := cQ_get L k p hp
  exact ⟨(h _ (by omega)).trans a, (h _ (by omega)).trans b, (h _ (by omega)).trans c, (h _ (by omega)).trans d⟩
theorem mixQ_self (L : List Q4) (k : Nat) : mixQ (L.take k) L = cQ L := by
  unfold mixQ
  have h : cQ L = cQ (L.take k) ++ cQ (L.drop k) := by
    unfold cQ
    rw [← List.flatMap_append, List.take_append_drop]
  conv => rhs; rw [h]
  congr 1
  have h2 := h
  rw [h2, List.drop_append, cQ_length]
  simp only [List.length_take]
  by_cases hk : k ≤ L.length
  · rw [Nat.min_eq_left hk, Nat.sub_self, List.drop_zero, List.drop_eq_nil_of_le (by rw [cQ_length, List.length_take]; omega), List.nil_append]
  · have e : L.drop k = [] := List.drop_eq_nil_of_le (by omega)
    rw [e, List.drop_eq_nil_of_le (by rw [cQ_length, List.length_take]; omega)]; simp [cQ]
theorem mixQ_set (C L : List Q4) (p : Q4) (h : C.length < L.length) :
    ((((mixQ C L).set (C.length * 4) (.string ⟨⟨p.1⟩⟩)).set (C.length * 4 + 1) (.string ⟨⟨p.2.1⟩⟩)).set (C.length * 4 + 2) (.string ⟨⟨p.2.2.1⟩⟩)).set (C.length * 4 + 3) (.string ⟨⟨p.2.2.2⟩⟩) = mixQ (C ++ [p]) L := by
  apply List.ext_getElem?
  intro j
  have lm := mixQ_len C L (by omega)
  have lm2 := mixQ_len (C ++ [p]) L (by simp; omega)
  simp only [List.getElem?_set, List.length_set, lm]
  have hR : ∀ i, C.length * 4 + 4 ≤ i → (mixQ (C ++ [p]) L)[i]? = (mixQ C L)[i]? := fun i hi => by
    unfold mixQ
    rw [List.getElem?_append_right (by rw [cQ_length]; simp; omega), List.getElem?_append_right (by rw [cQ_length]; omega), List.getElem?_drop, List.getElem?_drop, cQ_length, cQ_length]
    congr 1; simp; omega
  have hS : ∀ i, i < C.length * 4 → (mixQ (C ++ [p]) L)[i]? = (mixQ C L)[i]? := fun i hi => by
    unfold mixQ
    obtain ⟨a, b, c, d⟩ := p
    rw [cQ_snoc, List.append_assoc, List.getElem?_append_left (by rw [cQ_length]; exact hi), List.getElem?_append_left (by rw [cQ_length]; exact hi)]
  have hM : ∀ i, i < 4 → (mixQ (C ++ [p]) L)[C.length * 4 + i]? = [Value.string ⟨⟨p.1⟩⟩, .string ⟨⟨p.2.1⟩⟩, .string ⟨⟨p.2.2.1⟩⟩, .string ⟨⟨p.2.2.2⟩⟩][i]? := fun i hi => by
    unfold mixQ
    obtain ⟨a, b, c, d⟩ := p
    rw [cQ_snoc, List.append_assoc, List.getElem?_append_right (by rw [cQ_length]; omega), cQ_length, Nat.add_sub_cancel_left, List.getElem?_append_left (by simpa using hi)]
  by_cases e3 : C.length * 4 + 3 = j
  · subst e3; rw [if_pos rfl, if_pos (by omega), hM 3 (by omega)]; rfl
  · rw [if_neg e3]
    by_cases e2 : C.length * 4 + 2 = j
    · subst e2; rw [if_pos rfl, if_pos (by omega), hM 2 (by omega)]; rfl
    · rw [if_neg e2]
      by_cases e1 : C.length * 4 + 1 = j
      · subst e1; rw [if_pos rfl, if_pos (by omega), hM 1 (by omega)]; rfl
      · rw [if_neg e1]
        by_cases e0 : C.length * 4 = j
        · subst e0; rw [if_pos rfl, if_pos (by omega)]
          have := hM 0 (by omega)
          rw [Nat.add_zero] at this
          rw [this]; rfl
        · rw [if_neg e0]
          by_cases hlt : j < C.length * 4
          · exact (hS j hlt).symm
          · exact (hR j (by omega)).symm
end Sc
end Go.Proofs.YtppbejebmlcloaaDoor
