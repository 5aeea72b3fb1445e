/- Rows of ints that a function makes of its own. -/
import Derived.Test.YtfebacopbacopaaDoorDice
set_option linter.unusedVariables false
set_option linter.unusedSimpArgs false
namespace Go.Proofs.YtfebacopbacopaaDoor
open Go.RowKit Dice
namespace Ri
theorem infoI : (Tryd.prog.info? 3).map (fun i => (i.zero, i.size, i.bytes)) = some (some (.int .i64 0), 1, 8) := by kernel_rfl
def iv (L : List Int) : List Value := L.map (.int .i64)
theorem iv_length (L : List Int) : (iv L).length = L.length := by simp [iv]
theorem own_of_row {B n : Nat} {w : World} {e : TypeId} {g : Nat} {xs : List Value} (h : w.ownsRow B e 1 (.slice (some ⟨g, 0, none⟩) n n) n xs) (hm : n ≤ maxLen) : Buf.Own B w (.slice (some ⟨g, 0, none⟩) n n) xs ∧ xs.length = n := by
  obtain ⟨hl, h⟩ := h
  rw [Nat.mul_one] at hl
  rcases h with ⟨e, _⟩ | ⟨g', cap, cur, e, hB, hg, _, _, hcur, htake⟩
  · cases e
  · injection e with e1 e2 e3
    injection e1 with e1
    injection e1 with e1
    subst e1 e3
    rw [Nat.mul_one] at hcur htake
    have hlt := (Array.getElem?_eq_some_iff.1 hg).1
    have hc : ∀ j, w.cell? ⟨g, j, none⟩ = cur[j]? := fun j => cell_of_row w g j _ _ _ hg
    have hx : cur.toList = xs := by rw [← htake, List.take_of_length_le (by simp; omega)]
    refine ⟨.inr ⟨g, n, by rw [hl], hB, hlt, rfl, by omega, hm, fun j hj => ?_, fun j hj => ?_, fun j hj => frozen_of_row w g j _ _ hg⟩, hl⟩
    · rw [hc, ← hx]; simp
    · rw [hc, Array.getElem?_eq_getElem (by omega)]; rfl
theorem wpList_make_ints {P : Program} (w : World) {ops : Array Oper} {rest : List Oper} {o : Oper} {a : Act} {Q : Exit → Act → World → Prop}
    (hg : o.guard = none) (l c : Operand) (t : TypeId) (hop : o.op = Op.makeSlice t l c) (e : TypeId) (i : TypeInfo) (h1 : P.underlying t = some (.slice e)) (h2 : P.info? e = some i) (h3 : i.zero = some (.int .i64 0)) (h4 : i.size = 1) (h5 : i.bytes = 8)
    (N C : Int) (n : Nat) (hl : a.eval l = .int .i64 N) (hc : a.eval c = .int .i64 C) (hL : N = (n : Int)) (hC : C = (n : Int)) (b : n ≤ 1000000)
    (hK : ∀ w', Buf.Own w.heap.size w' (.slice (some ⟨w.heap.size, 0, none⟩) n n) (iv (List.replicate n 0)) → Below w.heap.size w w' → wpList P ops Q rest (a.put o.dst (.slice (some ⟨w.heap.size, 0, none⟩) n n)) w') :
    wpList P ops Q (o :: rest) a w := by
  refine wpList_make_full w hg l c t hop w.heap.size e i (.int .i64 0) 1 h1 h2 h3 h4 .i64 .i64 N C n hl hc hL hC (by rw [h5]; omega) (by unfold maxLen; omega) (Nat.le_refl _) fun w' hrow hgr => ?_
  obtain ⟨ho, _⟩ := own_of_row hrow (by unfold maxLen; omega)
  have e1 : (madeCells (Value.int .i64 0).cells (n * 1)).toList = iv (List.replicate n 0) := by
    rw [Nat.mul_one, show (Value.int .i64 0).cells = #[Value.int .i64 0] from rfl, toList_madeCells_one]
    simp [iv]
  rw [e1] at ho
  exact hK w' ho ((Below.refl _ _).grown hgr (Nat.le_refl _) fun k hk => by cases hk)
theorem iv_get (L : List Int) (j : Nat) (hj : j < L.length) (h : j < (iv L).length) : (iv L)[j] = .int .i64 (L.getD j 0) := by simp [iv, List.getD, hj]
theorem iv_set (L : List Int) (j : Nat) (x : Int) : (iv L).set j (.int .i64 x) = iv (L.set j x) := by simp [iv, List.map_set]
theorem row_read {B : Nat} {w : World} {g n c : Nat} {L : List Int} (h : Buf.Own B w (.slice (some ⟨g, 0, none⟩) n c) (iv L)) (j : Nat) (hj : j < L.length) : w.cell? ⟨g, j, none⟩ = some (.int .i64 (L.getD j 0)) ∧ w.frozen? ⟨g, j, none⟩ = false ∧ B ≤ g := by
  obtain ⟨g', c', e, hB, _, hc, hf⟩ := h.parts (by rw [iv_length]; omega)
  injection e with e1 e2 e3
  injection e1 with e1
  injection e1 with e1
  subst e1
  refine ⟨?_, hf j (by rw [iv_length]; exact hj), hB⟩
  rw [hc j (by rw [iv_length]; exact hj), iv_get L j hj]
theorem row_store {B : Nat} {w : World} {g n c : Nat} {L : List Int} (h : Buf.Own B w (.slice (some ⟨g, 0, none⟩) n c) (iv L)) (j : Nat) (x : Int) : Buf.Own B (w.setCell ⟨g, j, none⟩ (.int .i64 x)) (.slice (some ⟨g, 0, none⟩) n c) (iv (L.set j x)) := by
  have := h.store j (.int .i64 x)
  rwa [iv_set] at this
end Ri
end Go.Proofs.YtfebacopbacopaaDoor
