/- A slice of one-celled elements in a block of the call's own, also one that []byte(s) made: what append, index, store and string(b) do to it. -/
import Derived.Deep.Upon
import Derived.Laws.IdiomStrings
import Derived.WalkKit
import Derived.Below
import Derived.Deep.Draws
import Derived.Deep.QuietTactic
import Derived.BigQuiet
namespace Go.Proofs.Ytldgihlhioeipaa
open Go.RowKit
namespace Buf

/-- v is a slice of n elements, the cells xs, in a block from B on that may be written up to its capacity. -/
structure BB (B : Nat) (w : World) (g n cap : Nat) (xs : List Value) : Prop where
  base : B ≤ g
  lt : g < w.heap.size
  len : xs.length = n
  le : n ≤ cap
  max : cap ≤ maxLen
  cells : ∀ j, j < n → w.cell? ⟨g, j, none⟩ = xs[j]?
  there : ∀ j, j < cap → (w.cell? ⟨g, j, none⟩).isSome = true
  free : ∀ j, j < cap → w.frozen? ⟨g, j, none⟩ = false

def Own (B : Nat) (w : World) (v : Value) (xs : List Value) : Prop :=
  (v = .slice none 0 0 ∧ xs = []) ∨ ∃ g cap, v = .slice (some ⟨g, 0, none⟩) xs.length cap ∧ BB B w g xs.length cap xs

theorem BB.of_block {B : Nat} {w w' : World} {g n cap : Nat} {xs : List Value} (h : BB B w g n cap xs) (hg : w'.heap[g]? = w.heap[g]?) (hs : w.heap.size ≤ w'.heap.size) : BB B w' g n cap xs :=
  ⟨h.base, Nat.lt_of_lt_of_le h.lt hs, h.len, h.le, h.max,
   fun j hj => (World.cell?_of_block (a := ⟨g, j, none⟩) hg).trans (h.cells j hj),
   fun j hj => by rw [World.cell?_of_block (a := ⟨g, j, none⟩) hg]; exact h.there j hj,
   fun j hj => by rw [World.frozen?_of_block (a := ⟨g, j, none⟩) hg]; exact h.free j hj⟩

theorem Own.kept {B : Nat} {w w' : World} {v : Value} {xs : List Value} (h : Own B w v xs) (hb : ∀ k, k < w.heap.size → w'.heap[k]? = w.heap[k]?) (hs : w.heap.size ≤ w'.heap.size) : Own B w' v xs := by
  rcases h with h | ⟨g, cap, e, hb'⟩
  · exact .inl h
  · exact .inr ⟨g, cap, e, hb'.of_block (hb g hb'.lt) hs⟩
theorem Own.below {B : Nat} {w w' : World} {v : Value} {xs : List Value} (h : Own B w v xs) (hb : Below w.heap.size w w') : Own B w' v xs := h.kept hb.block hb.size
theorem Own.alloc {B : Nat} {w : World} {v : Value} {xs : List Value} (h : Own B w v xs) (o : Obj) : Own B (w.alloc o) v xs :=
  h.below ((Below.refl _ _).alloc (Nat.le_refl _) o)
theorem Own.drew {B : Nat} {w : World} {v : Value} {xs : List Value} (h : Own B w v xs) : Own B w.drew v xs := h.below (Below.refl _ _).drew
theorem Own.drewN {B : Nat} {w : World} {v : Value} {xs : List Value} (h : Own B w v xs) (n : Nat) : Own B (w.drewN n) v xs := h.kept (fun _ _ => rfl) (Nat.le_refl _)
theorem Own.mono {B B' : Nat} {w : World} {v : Value} {xs : List Value} (h : Own B w v xs) (hB : B' ≤ B) : Own B' w v xs := by
  rcases h with h | ⟨g, cap, e, hb⟩
  · exact .inl h
  · exact .inr ⟨g, cap, e, Nat.le_trans hB hb.base, hb.lt, hb.len, hb.le, hb.max, hb.cells, hb.there, hb.free⟩
theorem Own.nil (B : Nat) (w : World) : Own B w (.slice none 0 0) [] := .inl ⟨rfl, rfl⟩

theorem below_drewN {B : Nat} {a w : World} (h : Below B a w) (n : Nat) : Below B a (w.drewN n) := ⟨h.os, h.tape, h.output, h.size, h.block⟩

theorem then_ {w w1 w2 : World} (h : Below w.heap.size w w1) (k : Below w1.heap.size w1 w2) : Below w.heap.size w w2 := h.trans (k.mono h.size)
/-- A callee that leaves what was there, in any world of the class. -/
theorem calm {P : Program} {f : FuncId} {args : Array Value} {W w : World} {v : Value} (hC : Below W.heap.size W w) (h : Calls P f args w fun e w' => e = .returned v ∧ Below w.heap.size w w') :
    Calls P f args w fun e w' => e = .returned v ∧ Below W.heap.size W w' := h.mono fun _ _ ⟨he, hb⟩ => ⟨he, then_ hC hb⟩
/-- A region that draws its order, whose callees leave what was there: one walk in the order of the text. -/
theorem region_calm {P : Program} (W : World) {id : Nat} {Q : Exit → Act → World → Prop} {a : Act} {w : World} {l : List Oper} (hm : P.follows .mixedOrders = true) (hB : Region.lexB .any l.toArray = true) (h0 : Below W.heap.size W w)
    (h : wpQuiet P l.toArray (fun w' => Below W.heap.size W w') (fun a' => ∀ w', Below W.heap.size W w' → Q .normal a' w') l a) : (Code.region id l.toArray true).wp P Q a w :=
  wp_region_quiet (C := fun w' => Below W.heap.size W w') hm hB h0.drew (by simpa using h)
/-- A slice of integers that came in. -/
def IsRow (k : IntKind) (w : World) (a : Option Addr) (len cap : Nat) (zs : List Int) : Prop :=
  (a = none ∧ len = 0 ∧ cap = 0 ∧ zs = []) ∨
  ∃ x, a = some x ∧ len ≤ cap ∧ cap ≤ maxLen ∧ zs.length = cap ∧ (∀ i, i < zs.length → w.cell? (x.add i) = some (.int k (zs.getD i 0))) ∧ ∀ n ∈ zs, (Lit.int k n).wf = true

section
variable {P : Program}
/-- What an append leaves below the call's own blocks. -/
theorem below_grown {B : Nat} {w0 w w' : World} {v : Value} {xs : List Value} (hb : Below B w0 w) (h : Own B w v xs) (hB : B ≤ w.heap.size) (hg : w.grownBy w' v.ownBlock) : Below B w0 w' := by
  refine hb.grown hg hB fun k hk => ?_
  rcases h with ⟨rfl, _⟩ | ⟨g, cap, rfl, hbb⟩
  · cases hk
  · simp only [Value.ownBlock, Option.some.injEq] at hk
    rw [← hk]; exact hbb.base
/-- A store into a slice of the call's own: what it holds then. -/
theorem Own.store {B : Nat} {w : World} {g n cap : Nat} {xs : List Value} (h : Own B w (.slice (some ⟨g, 0, none⟩) n cap) xs) (q : Nat) (u : Value) :
    Own B (w.setCell ⟨g, q, none⟩ u) (.slice (some ⟨g, 0, none⟩) n cap) (xs.set q u) := by
  rcases h with ⟨e, _⟩ | ⟨g', cap', e, hb⟩
  · cases e
  · injection e with e1 e2 e3
    injection e1 with e1
    injection e1 with e1
    subst e1 e2 e3
    refine .inr ⟨g, cap, by rw [List.length_set], hb.base, by simp [World.setCell]; exact hb.lt, rfl, by rw [List.length_set]; exact hb.le, hb.max, ?_, ?_, ?_⟩
    · intro j hj
      rw [List.length_set] at hj
      by_cases hq : j = q
      · subst hq
        obtain ⟨v, hv⟩ := Option.isSome_iff_exists.1 (hb.there j (Nat.lt_of_lt_of_le hj hb.le))
        rw [World.cell?_setCell_same w _ _ hv, List.getElem?_set_self hj]
      · rw [World.cell?_setCell_other w _ _ _ (fun e => hq (by injection e with _ e2; exact e2.symm)), List.getElem?_set_ne (Ne.symm hq)]
        exact hb.cells j hj
    · intro j hj
      obtain ⟨v, hv⟩ := Option.isSome_iff_exists.1 (hb.there j hj)
      obtain ⟨v', hv'⟩ := cell?_setCell_some (w := w) (p := ⟨g, q, none⟩) (x := u) (q := ⟨g, j, none⟩) (v := v) hv
      rw [hv']; rfl
    · intro j hj
      rw [World.frozen?_setCell]; exact hb.free j hj
theorem Own.far {B : Nat} {w : World} {g n cap : Nat} {xs : List Value} (h : Own B w (.slice (some ⟨g, 0, none⟩) n cap) xs) {b : Nat} (hne : g ≠ b) (q : Nat) (u : Value) :
    Own B (w.setCell ⟨b, q, none⟩ u) (.slice (some ⟨g, 0, none⟩) n cap) xs := by
  rcases h with ⟨e, _⟩ | ⟨g', cap', e, hb⟩
  · cases e
  · injection e with e1 e2 e3
    injection e1 with e1
    injection e1 with e1
    subst e1 e2 e3
    exact .inr ⟨g, cap, rfl, hb.of_block (Below.heap_setCell _ _ _ _ hne) (by simp [World.setCell])⟩
theorem Own.lt {B : Nat} {w : World} {g n cap : Nat} {xs : List Value} (h : Own B w (.slice (some ⟨g, 0, none⟩) n cap) xs) : g < w.heap.size := by
  rcases h with ⟨e, _⟩ | ⟨g', cap', e, hb⟩
  · cases e
  · injection e with e1 e2 e3
    injection e1 with e1
    injection e1 with e1
    subst e1
    exact hb.lt
end
end Buf
end Go.Proofs.Ytldgihlhioeipaa
