/- Stores of a whole problem; the flat problems of the example, and the example. -/
import Derived.Test.YtldgihlhioeipaaMisD
import Derived.Test.YtldgihlhioeipaaBoundA
set_option linter.unusedVariables false
set_option linter.unusedSimpArgs false
namespace Go.Proofs.Ytldgihlhioeipaa
open Go.RowKit
namespace Mis
theorem st11 {w : World} {g : Nat} {a b c d e f s l h p q : Value} {t : TypeId} (hh : w.heap[g]? = some (.cells #[a, b, c, d, e, f, s, l, h, p, q] t (0, 0))) (a1 b1 c1 d1 e1 f1 s1 l1 h1 p1 q1 : Value) :
    (((((((((((w.setCell ⟨g, 0, none⟩ a1).setCell ⟨g, 1, none⟩ b1).setCell ⟨g, 2, none⟩ c1).setCell ⟨g, 3, none⟩ d1).setCell ⟨g, 4, none⟩ e1).setCell ⟨g, 5, none⟩ f1).setCell ⟨g, 6, none⟩ s1).setCell ⟨g, 7, none⟩ l1).setCell ⟨g, 8, none⟩ h1).setCell ⟨g, 9, none⟩ p1).setCell ⟨g, 10, none⟩ q1).heap[g]? = some (.cells #[a1, b1, c1, d1, e1, f1, s1, l1, h1, p1, q1] t (0, 0)) := by
  have k0 := (heap_setCell_same w g 0 _ _ a1 hh).trans (show _ = some (.cells #[a1, b, c, d, e, f, s, l, h, p, q] t (0, 0)) from rfl)
  have k1 := (heap_setCell_same (w.setCell ⟨g, 0, none⟩ a1) g 1 _ _ b1 k0).trans (show _ = some (.cells #[a1, b1, c, d, e, f, s, l, h, p, q] t (0, 0)) from rfl)
  have k2 := (heap_setCell_same ((w.setCell ⟨g, 0, none⟩ a1).setCell ⟨g, 1, none⟩ b1) g 2 _ _ c1 k1).trans (show _ = some (.cells #[a1, b1, c1, d, e, f, s, l, h, p, q] t (0, 0)) from rfl)
  have k3 := (heap_setCell_same (((w.setCell ⟨g, 0, none⟩ a1).setCell ⟨g, 1, none⟩ b1).setCell ⟨g, 2, none⟩ c1) g 3 _ _ d1 k2).trans (show _ = some (.cells #[a1, b1, c1, d1, e, f, s, l, h, p, q] t (0, 0)) from rfl)
  have k4 := (heap_setCell_same ((((w.setCell ⟨g, 0, none⟩ a1).setCell ⟨g, 1, none⟩ b1).setCell ⟨g, 2, none⟩ c1).setCell ⟨g, 3, none⟩ d1) g 4 _ _ e1 k3).trans (show _ = some (.cells #[a1, b1, c1, d1, e1, f, s, l, h, p, q] t (0, 0)) from rfl)
  have k5 := (heap_setCell_same (((((w.setCell ⟨g, 0, none⟩ a1).setCell ⟨g, 1, none⟩ b1).setCell ⟨g, 2, none⟩ c1).setCell ⟨g, 3, none⟩ d1).setCell ⟨g, 4, none⟩ e1) g 5 _ _ f1 k4).trans (show _ = some (.cells #[a1, b1, c1, d1, e1, f1, s, l, h, p, q] t (0, 0)) from rfl)
  have k6 := (heap_setCell_same ((((((w.setCell ⟨g, 0, none⟩ a1).setCell ⟨g, 1, none⟩ b1).setCell ⟨g, 2, none⟩ c1).setCell ⟨g, 3, none⟩ d1).setCell ⟨g, 4, none⟩ e1).setCell ⟨g, 5, none⟩ f1) g 6 _ _ s1 k5).trans (show _ = some (.cells #[a1, b1, c1, d1, e1, f1, s1, l, h, p, q] t (0, 0)) from rfl)
  have k7 := (heap_setCell_same (((((((w.setCell ⟨g, 0, none⟩ a1).setCell ⟨g, 1, none⟩ b1).setCell ⟨g, 2, none⟩ c1).setCell ⟨g, 3, none⟩ d1).setCell ⟨g, 4, none⟩ e1).setCell ⟨g, 5, none⟩ f1).setCell ⟨g, 6, none⟩ s1) g 7 _ _ l1 k6).trans (show _ = some (.cells #[a1, b1, c1, d1, e1, f1, s1, l1, h, p, q] t (0, 0)) from rfl)
  have k8 := (heap_setCell_same ((((((((w.setCell ⟨g, 0, none⟩ a1).setCell ⟨g, 1, none⟩ b1).setCell ⟨g, 2, none⟩ c1).setCell ⟨g, 3, none⟩ d1).setCell ⟨g, 4, none⟩ e1).setCell ⟨g, 5, none⟩ f1).setCell ⟨g, 6, none⟩ s1).setCell ⟨g, 7, none⟩ l1) g 8 _ _ h1 k7).trans (show _ = some (.cells #[a1, b1, c1, d1, e1, f1, s1, l1, h1, p, q] t (0, 0)) from rfl)
  have k9 := (heap_setCell_same (((((((((w.setCell ⟨g, 0, none⟩ a1).setCell ⟨g, 1, none⟩ b1).setCell ⟨g, 2, none⟩ c1).setCell ⟨g, 3, none⟩ d1).setCell ⟨g, 4, none⟩ e1).setCell ⟨g, 5, none⟩ f1).setCell ⟨g, 6, none⟩ s1).setCell ⟨g, 7, none⟩ l1).setCell ⟨g, 8, none⟩ h1) g 9 _ _ p1 k8).trans (show _ = some (.cells #[a1, b1, c1, d1, e1, f1, s1, l1, h1, p1, q] t (0, 0)) from rfl)
  have k10 := (heap_setCell_same ((((((((((w.setCell ⟨g, 0, none⟩ a1).setCell ⟨g, 1, none⟩ b1).setCell ⟨g, 2, none⟩ c1).setCell ⟨g, 3, none⟩ d1).setCell ⟨g, 4, none⟩ e1).setCell ⟨g, 5, none⟩ f1).setCell ⟨g, 6, none⟩ s1).setCell ⟨g, 7, none⟩ l1).setCell ⟨g, 8, none⟩ h1).setCell ⟨g, 9, none⟩ p1) g 10 _ _ q1 k9).trans (show _ = some (.cells #[a1, b1, c1, d1, e1, f1, s1, l1, h1, p1, q1] t (0, 0)) from rfl)
  exact k10
theorem st_far {w : World} {g b o : Nat} {x : Obj} (h : w.heap[b]? = some x) (hne : b ≠ g) (v : Value) : (w.setCell ⟨g, o, none⟩ v).heap[b]? = some x := (Below.heap_setCell w ⟨g, o, none⟩ v b hne).trans h
theorem own_far {w : World} {B sz g o : Nat} {e : TypeId} {v : Value} {n : Nat} {xs : List Value} (h : w.ownsRow B e sz v n xs) (hg : g < B) (u : Value) : (w.setCell ⟨g, o, none⟩ u).ownsRow B e sz v n xs :=
  own_kept h fun k hk => Below.heap_setCell w ⟨g, o, none⟩ u k (by have := (h.lt k hk).1; show k ≠ g; omega)
theorem below11 {B g : Nat} {w0 w : World} (h : Below B w0 w) (hg : B ≤ g) (a1 b1 c1 d1 e1 f1 s1 l1 h1 p1 q1 : Value) : Below B w0 (((((((((((w.setCell ⟨g, 0, none⟩ a1).setCell ⟨g, 1, none⟩ b1).setCell ⟨g, 2, none⟩ c1).setCell ⟨g, 3, none⟩ d1).setCell ⟨g, 4, none⟩ e1).setCell ⟨g, 5, none⟩ f1).setCell ⟨g, 6, none⟩ s1).setCell ⟨g, 7, none⟩ l1).setCell ⟨g, 8, none⟩ h1).setCell ⟨g, 9, none⟩ p1).setCell ⟨g, 10, none⟩ q1) := (((((((((((h.setCell (p := ⟨g, 0, none⟩) hg a1).setCell (p := ⟨g, 1, none⟩) hg b1).setCell (p := ⟨g, 2, none⟩) hg c1).setCell (p := ⟨g, 3, none⟩) hg d1).setCell (p := ⟨g, 4, none⟩) hg e1).setCell (p := ⟨g, 5, none⟩) hg f1).setCell (p := ⟨g, 6, none⟩) hg s1).setCell (p := ⟨g, 7, none⟩) hg l1).setCell (p := ⟨g, 8, none⟩) hg h1).setCell (p := ⟨g, 9, none⟩) hg p1).setCell (p := ⟨g, 10, none⟩) hg q1)
theorem f11 {w : World} {g : Nat} {a b c d e f s l h p q : Value} {t : TypeId} (hh : w.heap[g]? = some (.cells #[a, b, c, d, e, f, s, l, h, p, q] t (0, 0))) : w.frozen? ⟨g, 0, none⟩ = false ∧ w.frozen? ⟨g, 1, none⟩ = false ∧ w.frozen? ⟨g, 2, none⟩ = false ∧ w.frozen? ⟨g, 3, none⟩ = false ∧ w.frozen? ⟨g, 4, none⟩ = false ∧ w.frozen? ⟨g, 5, none⟩ = false ∧ w.frozen? ⟨g, 6, none⟩ = false ∧ w.frozen? ⟨g, 7, none⟩ = false ∧ w.frozen? ⟨g, 8, none⟩ = false ∧ w.frozen? ⟨g, 9, none⟩ = false ∧ w.frozen? ⟨g, 10, none⟩ = false := ⟨frozen_of_row w g 0 _ _ hh, frozen_of_row w g 1 _ _ hh, frozen_of_row w g 2 _ _ hh, frozen_of_row w g 3 _ _ hh, frozen_of_row w g 4 _ _ hh, frozen_of_row w g 5 _ _ hh, frozen_of_row w g 6 _ _ hh, frozen_of_row w g 7 _ _ hh, frozen_of_row w g 8 _ _ hh, frozen_of_row w g 9 _ _ hh, frozen_of_row w g 10 _ _ hh⟩
theorem cells11_set9 {w : World} {g : Nat} {a b c d e f s l h p q : Value} {t : TypeId} (hh : w.heap[g]? = some (.cells #[a, b, c, d, e, f, s, l, h, p, q] t (0, 0))) (v : Value) : (w.setCell ⟨g, 9, none⟩ v).heap[g]? = some (.cells #[a, b, c, d, e, f, s, l, h, v, q] t (0, 0)) := (heap_setCell_same w g 9 _ _ v hh).trans rfl
theorem rt0 : Root.rt 0 32 = 0 := by decide +kernel
theorem ce0 : Root.ce 0 = 0 := by decide +kernel
theorem pv0 : Geo.PV 0 0 0 := ⟨by decide, by decide, by decide, by decide, by decide, by decide⟩
theorem bv0 : Geo.BV 0 0 0 0 0 0 := ⟨pv0, pv0, by decide, by decide, by decide⟩
theorem near0 : Geo.near3 0 0 0 0 0 0 0 0 0 = 0 := by decide
theorem far0 : Geo.far3 0 0 0 0 0 0 0 0 0 = 0 := by decide
theorem own_slice {w : World} {B : Nat} {v : Value} {l : List Ph} (h : OwnP w B v l) (h0 : 0 < l.length) : ∃ g c, v = .slice (some ⟨g, 0, none⟩) l.length c ∧ PhR w g l ∧ l.length ≤ c ∧ c ≤ maxLen := by
  rcases own_shape h with ⟨_, h1⟩ | ⟨g, c, rfl, h2, h3, h4, h5⟩
  · omega
  · exact ⟨g, c, rfl, (phR_of_own h).1, h2, h3⟩
end Mis
end Go.Proofs.Ytldgihlhioeipaa
