/- Three rows of ints that grow side by side (FilL's, beside the detector). -/
import Derived.Test.YtbmcmiggifknfaaDoorDetD
import Derived.Deep.AppendLies
import Derived.Laws.OwnMore
set_option linter.unusedVariables false
namespace Go.Proofs.YtbmcmiggifknfaaDoor
open Go.RowKit Dice
namespace Det
theorem row_below {w w' : World} {B : Nat} {e : TypeId} {s : Nat} {v : Value} {n : Nat} {xs : List Value} (h : w.ownsRow B e s v n xs) (hb : Below w.heap.size w w') : w'.ownsRow B e s v n xs :=
  h.kept (Dice.grown_of_below (r := none) hb) (by cases v.ownBlock <;> simp)
theorem row_grown {w w' : World} {B d : Nat} {e : TypeId} {s : Nat} {v : Value} {n : Nat} {xs : List Value} (h : w.ownsRow B e s v n xs) (hg : w.grownBy w' (some d)) (hd : d < B) : w'.ownsRow B e s v n xs :=
  h.kept hg (.inr (fun he => by have := (h.lt d he).1; omega))
theorem sv_row {w : World} {B n : Nat} {e : TypeId} {v : Value} {l : List Int} (h : w.ownsRow B e 1 v n (ints l)) : n = l.length ∧ SV w v n (fn l) := by
  have hl := h.1
  rw [ints_len, Nat.mul_one] at hl
  refine ⟨hl.symm, ?_⟩
  rcases h.2 with ⟨rfl, rfl⟩ | ⟨g, cap, cur, rfl, hb, hg, h1, h2, h3, h4⟩
  · exact ⟨none, 0, rfl, Nat.le_refl _, Nat.zero_le _, fun h => by omega⟩
  · refine ⟨_, cap, rfl, h1, h2, fun hn => ⟨g, 0, rfl, (Array.getElem?_eq_some_iff.1 hg).1, fun j hj => ?_⟩⟩
    rw [Nat.zero_add, h.cellAt j (by omega)]
    simp [ints, fn, List.getD_eq_getElem?_getD, List.getElem?_eq_getElem (show j < l.length by omega)]
/-- Three rows. -/
structure R3 (B : Nat) (w : World) (v1 v2 v3 : Value) (k1 k2 k3 : Nat) (X Y Z : List Int) : Prop where
  o1 : w.ownsRow B 3 1 v1 k1 (ints X)
  o2 : w.ownsRow B 3 1 v2 k2 (ints Y)
  o3 : w.ownsRow B 3 1 v3 k3 (ints Z)
  d12 : ∀ b, v1.ownBlock = some b → v2.ownBlock ≠ some b
  d13 : ∀ b, v1.ownBlock = some b → v3.ownBlock ≠ some b
  d23 : ∀ b, v2.ownBlock = some b → v3.ownBlock ≠ some b
theorem R3.below {B : Nat} {w w' : World} {v1 v2 v3 : Value} {k1 k2 k3 : Nat} {X Y Z : List Int} (h : R3 B w v1 v2 v3 k1 k2 k3 X Y Z) (hb : Below w.heap.size w w') : R3 B w' v1 v2 v3 k1 k2 k3 X Y Z :=
  ⟨row_below h.o1 hb, row_below h.o2 hb, row_below h.o3 hb, h.d12, h.d13, h.d23⟩
theorem R3.grown {B d : Nat} {w w' : World} {v1 v2 v3 : Value} {k1 k2 k3 : Nat} {X Y Z : List Int} (h : R3 B w v1 v2 v3 k1 k2 k3 X Y Z) (hg : w.grownBy w' (some d)) (hd : d < B) : R3 B w' v1 v2 v3 k1 k2 k3 X Y Z :=
  ⟨row_grown h.o1 hg hd, row_grown h.o2 hg hd, row_grown h.o3 hg hd, h.d12, h.d13, h.d23⟩
/-- Another row is kept by an append, and stays another one. -/
theorem keep_row {B n k g cap : Nat} {w w' : World} {e : TypeId} {v u : Value} {xs : List Value} (hu : w.ownsRow B e 1 u n xs) (hg : w.grownBy w' v.ownBlock) (hne : ∀ b, v.ownBlock = some b → u.ownBlock ≠ some b) (hat : v.ownBlock = some g ∨ g = w.heap.size) :
    w'.ownsRow B e 1 u n xs ∧ (∀ b, Value.ownBlock (.slice (some ⟨g, 0, none⟩) k cap) = some b → u.ownBlock ≠ some b) := by
  refine ⟨hu.kept hg ?_, fun b hb he => ?_⟩
  · cases hub : u.ownBlock with
    | none => exact .inl rfl
    | some b => exact .inr (fun he => hne b he.symm hub)
  · simp [Value.ownBlock] at hb
    subst hb
    rcases hat with h | h
    · exact hne _ h he
    · subst h; exact absurd (hu.lt _ he).2 (Nat.lt_irrefl _)
theorem R3.one {B k1 k2 k3 g cap : Nat} {w w' : World} {v1 v2 v3 : Value} {X Y Z : List Int} {x : Int} (h : R3 B w v1 v2 v3 k1 k2 k3 X Y Z) (hg : w.grownBy w' v1.ownBlock) (hat : v1.ownBlock = some g ∨ g = w.heap.size) (ho : w'.ownsRow B 3 1 (.slice (some ⟨g, 0, none⟩) (k1 + 1) cap) (k1 + 1) (ints X ++ [.int .i64 x])) :
    R3 B w' (.slice (some ⟨g, 0, none⟩) (k1 + 1) cap) v2 v3 (k1 + 1) k2 k3 (X ++ [x]) Y Z := by
  obtain ⟨a1, a2⟩ := keep_row (k := k1 + 1) (cap := cap) h.o2 hg h.d12 hat
  obtain ⟨b1, b2⟩ := keep_row (k := k1 + 1) (cap := cap) h.o3 hg h.d13 hat
  exact ⟨by rw [ints_snoc]; exact ho, a1, b1, a2, b2, h.d23⟩
theorem R3.two {B k1 k2 k3 g cap : Nat} {w w' : World} {v1 v2 v3 : Value} {X Y Z : List Int} {x : Int} (h : R3 B w v1 v2 v3 k1 k2 k3 X Y Z) (hg : w.grownBy w' v2.ownBlock) (hat : v2.ownBlock = some g ∨ g = w.heap.size) (ho : w'.ownsRow B 3 1 (.slice (some ⟨g, 0, none⟩) (k2 + 1) cap) (k2 + 1) (ints Y ++ [.int .i64 x])) :
    R3 B w' v1 (.slice (some ⟨g, 0, none⟩) (k2 + 1) cap) v3 k1 (k2 + 1) k3 X (Y ++ [x]) Z := by
  obtain ⟨a1, a2⟩ := keep_row (k := k2 + 1) (cap := cap) h.o1 hg (fun b hb he => h.d12 b he hb) hat
  obtain ⟨b1, b2⟩ := keep_row (k := k2 + 1) (cap := cap) h.o3 hg h.d23 hat
  exact ⟨a1, by rw [ints_snoc]; exact ho, b1, fun b hb he => a2 b he hb, h.d13, b2⟩
theorem R3.three {B k1 k2 k3 g cap : Nat} {w w' : World} {v1 v2 v3 : Value} {X Y Z : List Int} {x : Int} (h : R3 B w v1 v2 v3 k1 k2 k3 X Y Z) (hg : w.grownBy w' v3.ownBlock) (hat : v3.ownBlock = some g ∨ g = w.heap.size) (ho : w'.ownsRow B 3 1 (.slice (some ⟨g, 0, none⟩) (k3 + 1) cap) (k3 + 1) (ints Z ++ [.int .i64 x])) :
    R3 B w' v1 v2 (.slice (some ⟨g, 0, none⟩) (k3 + 1) cap) k1 k2 (k3 + 1) X Y (Z ++ [x]) := by
  obtain ⟨a1, a2⟩ := keep_row (k := k3 + 1) (cap := cap) h.o1 hg (fun b hb he => h.d13 b he hb) hat
  obtain ⟨b1, b2⟩ := keep_row (k := k3 + 1) (cap := cap) h.o2 hg (fun b hb he => h.d23 b he hb) hat
  exact ⟨a1, b1, by rw [ints_snoc]; exact ho, h.d12, fun b hb he => a2 b he hb, fun b hb he => b2 b he hb⟩
theorem R3.nil (B : Nat) (w : World) : R3 B w (.slice none 0 0) (.slice none 0 0) (.slice none 0 0) 0 0 0 [] [] [] :=
  ⟨World.ownsRow_nil _ _ _ _, World.ownsRow_nil _ _ _ _, World.ownsRow_nil _ _ _ _, (fun b hb => by cases hb), (fun b hb => by cases hb), (fun b hb => by cases hb)⟩
end Det
end Go.Proofs.YtbmcmiggifknfaaDoor
