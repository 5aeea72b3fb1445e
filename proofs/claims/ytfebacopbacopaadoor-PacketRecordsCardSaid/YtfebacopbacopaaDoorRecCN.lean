/- Lists of samples: reading, cloning. -/
import Derived.Test.YtfebacopbacopaaDoorRecA
import Derived.Lib.SliceRun
set_option linter.unusedVariables false
set_option linter.unusedSimpArgs false
namespace Go.Proofs.YtfebacopbacopaaDoor
open Go.RowKit
namespace Rec
open Dice
def ints (l : List Int) : List Value := l.map fun z => Value.int .i64 z
/-- A list of numbers that can be read. -/
def SR (w : World) (b : Nat) (xs : List Int) : Prop := b < w.heap.size ∧ ∀ j, j < xs.length → w.cell? ⟨b, j, none⟩ = some (.int .i64 (xs.getD j 0))
theorem SR.kept {w w' : World} {b : Nat} {xs : List Int} (h : SR w b xs) (e : w'.heap[b]? = w.heap[b]?) (hs : w.heap.size ≤ w'.heap.size) : SR w' b xs :=
  ⟨Nat.lt_of_lt_of_le h.1 hs, fun j hj => (World.cell?_of_block (a := ⟨b, j, none⟩) e).trans (h.2 j hj)⟩
theorem SR.below {w w' : World} {b : Nat} {xs : List Int} (h : SR w b xs) (hb' : Below w.heap.size w w') : SR w' b xs := h.kept (hb'.block b h.1) hb'.size
theorem sr_own {w : World} {B : Nat} {v : Value} {n : Nat} {xs : List Int} (h : w.ownsRow B 3 1 v n (ints xs)) (hn : n = xs.length) (h1 : 1 ≤ n) : ∃ b c, v = .slice (some ⟨b, 0, none⟩) n c ∧ SR w b xs ∧ n ≤ c ∧ c ≤ maxLen ∧ B ≤ b := by
  rcases id h.2 with ⟨_, h0⟩ | ⟨g, cap, cur, rfl, hb, hg, h2, h3, _⟩
  · omega
  · refine ⟨g, cap, rfl, ⟨(Array.getElem?_eq_some_iff.1 hg).1, fun j hj => ?_⟩, h2, h3, hb⟩
    have := h.cells (g := g) rfl j (.int .i64 (xs.getD j 0)) (by simp [ints, List.getD_eq_getElem?_getD, hj])
    rwa [Addr.add_lit, Nat.zero_add] at this
end Rec
end Go.Proofs.YtfebacopbacopaaDoor
