/- What the reader's problems are. -/
import Derived.Test.YtldgihlhioeipaaMisE
import Derived.Test.YtldgihlhioeipaaBoundD
set_option linter.unusedVariables false
set_option linter.unusedSimpArgs false
namespace Go.Proofs.Ytldgihlhioeipaa
open Go.RowKit
namespace Mis
/-- A phase as the reader makes it. -/
structure PhG (q : Ph) : Prop where
  x0 : -60 ≤ q.x
  x1 : q.x ≤ 60
  y0 : -60 ≤ q.y
  y1 : q.y ≤ 60
  z0 : 0 ≤ q.z
  z1 : q.z ≤ 60
  e0 : 0 ≤ q.E
  el : q.E ≤ q.L
  l9 : q.L ≤ 1099511640000
  w1 : 1 ≤ q.W
  w4 : q.W ≤ 4
def PhAll (L : List Ph) : Prop := ∀ (k : Nat) (q : Ph), L[k]? = some q → PhG q
theorem ph_snoc {L : List Ph} (h : PhAll L) {q : Ph} (hq : PhG q) : PhAll (L ++ [q]) := by
  intro k p hp
  by_cases hk : k < L.length
  · rw [List.getElem?_append_left hk] at hp; exact h k p hp
  · rw [List.getElem?_append_right (by omega)] at hp
    have e : k - L.length = 0 := by
      rcases hh : k - L.length with _ | j
      · rfl
      · rw [hh] at hp; simp at hp
    rw [e] at hp
    simp at hp
    subst hp; exact hq
/-- What Problem returns. -/
structure PbG (w' : World) (B : Nat) (side : Int) (most : Nat) (a1 a2 a3 d1 d2 d3 s : Int) (b1 b2 n : Nat) (lo hi : List Int) (gp cpp : Nat) (L : List Ph) (cp : Int) : Prop where
  bv : Geo.BV a1 a2 a3 d1 d2 d3
  s1 : d1 ≤ a1 + side
  s2 : d2 ≤ a2 + side
  s3 : d3 ≤ a3 + side
  x0 : -20 ≤ a1
  x1 : a1 ≤ 20
  y0 : -20 ≤ a2
  y1 : a2 ≤ 20
  z0 : 0 ≤ a3
  z1 : a3 ≤ 20
  tv : Bound.Wide w' s b1 b2 n lo hi
  m1 : B < b1
  m2 : B < b2
  c0 : 1 ≤ cp
  c9 : cp ≤ 1000
  n1 : 1 ≤ L.length
  n9 : L.length ≤ most
  ph : PhAll L
  pr : PhR w' gp L
  gB : B < gp
  le : L.length ≤ cpp
  mx : cpp ≤ maxLen
def ProbSaid (B : Nat) (side : Int) (most : Nat) (r : Ending) (w' : World) : Prop := ∃ (a1 a2 a3 d1 d2 d3 s : Int) (b1 b2 n c1 c2 : Nat) (lo hi : List Int) (gp cpp : Nat) (L : List Ph) (cp : Int) (nl : Nat), r = .returned (.agg #[.int .i64 a1, .int .i64 a2, .int .i64 a3, .int .i64 d1, .int .i64 d2, .int .i64 d3, .int .i64 s, .slice (some ⟨b1, 0, none⟩) n c1, .slice (some ⟨b2, 0, none⟩) n c2, .slice (some ⟨gp, 0, none⟩) nl cpp, .int .i64 cp]) ∧ nl = L.length ∧ PbG w' B side most a1 a2 a3 d1 d2 d3 s b1 b2 n lo hi gp cpp L cp
end Mis
end Go.Proofs.Ytldgihlhioeipaa
