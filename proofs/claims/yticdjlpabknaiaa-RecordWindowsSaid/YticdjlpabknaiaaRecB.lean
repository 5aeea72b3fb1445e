/- Records that the dice make. -/
import Derived.Test.YticdjlpabknaiaaDice
import Derived.Test.YticdjlpabknaiaaRecA
import Derived.Test.YticdjlpabknaiaaRateBN
import Derived.Laws.AppendOwn
import Derived.Laws.OwnMore
import Derived.Deep.AppendLies
set_option linter.unusedVariables false
set_option linter.unusedSimpArgs false
namespace Go.Proofs.Yticdjlpabknaiaa
open Go.RowKit
namespace Rec
open Dice
set_option maxHeartbeats 4000000 in
theorem c12 {w : World} {g : Nat} {a b c d e f s l h p q r : Value} {t : TypeId} (hh : w.heap[g]? = some (.cells #[a, b, c, d, e, f, s, l, h, p, q, r] t (0, 0))) : w.cell? ⟨g, 0, none⟩ = some a ∧ w.cell? ⟨g, 1, none⟩ = some b ∧ w.cell? ⟨g, 2, none⟩ = some c ∧ w.cell? ⟨g, 3, none⟩ = some d ∧ w.cell? ⟨g, 4, none⟩ = some e ∧ w.cell? ⟨g, 5, none⟩ = some f ∧ w.cell? ⟨g, 6, none⟩ = some s ∧ w.cell? ⟨g, 7, none⟩ = some l ∧ w.cell? ⟨g, 8, none⟩ = some h ∧ w.cell? ⟨g, 9, none⟩ = some p ∧ w.cell? ⟨g, 10, none⟩ = some q ∧ w.cell? ⟨g, 11, none⟩ = some r :=
  ⟨cell_of_row w g 0 _ _ _ hh, cell_of_row w g 1 _ _ _ hh, cell_of_row w g 2 _ _ _ hh, cell_of_row w g 3 _ _ _ hh, cell_of_row w g 4 _ _ _ hh, cell_of_row w g 5 _ _ _ hh, cell_of_row w g 6 _ _ _ hh, cell_of_row w g 7 _ _ _ hh, cell_of_row w g 8 _ _ _ hh, cell_of_row w g 9 _ _ _ hh, cell_of_row w g 10 _ _ _ hh, cell_of_row w g 11 _ _ _ hh⟩
set_option maxHeartbeats 4000000 in
theorem f12 {w : World} {g : Nat} {a b c d e f s l h p q r : Value} {t : TypeId} (hh : w.heap[g]? = some (.cells #[a, b, c, d, e, f, s, l, h, p, q, r] t (0, 0))) : w.frozen? ⟨g, 0, none⟩ = false ∧ w.frozen? ⟨g, 1, none⟩ = false ∧ w.frozen? ⟨g, 2, none⟩ = false ∧ w.frozen? ⟨g, 3, none⟩ = false ∧ w.frozen? ⟨g, 4, none⟩ = false ∧ w.frozen? ⟨g, 5, none⟩ = false ∧ w.frozen? ⟨g, 6, none⟩ = false ∧ w.frozen? ⟨g, 7, none⟩ = false ∧ w.frozen? ⟨g, 8, none⟩ = false ∧ w.frozen? ⟨g, 9, none⟩ = false ∧ w.frozen? ⟨g, 10, none⟩ = false ∧ w.frozen? ⟨g, 11, none⟩ = false :=
  ⟨frozen_of_row w g 0 _ _ hh, frozen_of_row w g 1 _ _ hh, frozen_of_row w g 2 _ _ hh, frozen_of_row w g 3 _ _ hh, frozen_of_row w g 4 _ _ hh, frozen_of_row w g 5 _ _ hh, frozen_of_row w g 6 _ _ hh, frozen_of_row w g 7 _ _ hh, frozen_of_row w g 8 _ _ hh, frozen_of_row w g 9 _ _ hh, frozen_of_row w g 10 _ _ hh, frozen_of_row w g 11 _ _ hh⟩
set_option maxHeartbeats 4000000 in
theorem st12 {w : World} {g : Nat} {a b c d e f s l h p q r : Value} {t : TypeId} (hh : w.heap[g]? = some (.cells #[a, b, c, d, e, f, s, l, h, p, q, r] t (0, 0))) (a1 b1 c1 d1 e1 f1 s1 l1 h1 p1 q1 r1 : Value) : ((((((((((((w.setCell ⟨g, 0, none⟩ a1).setCell ⟨g, 1, none⟩ b1).setCell ⟨g, 2, none⟩ c1).setCell ⟨g, 3, none⟩ d1).setCell ⟨g, 4, none⟩ e1).setCell ⟨g, 5, none⟩ f1).setCell ⟨g, 6, none⟩ s1).setCell ⟨g, 7, none⟩ l1).setCell ⟨g, 8, none⟩ h1).setCell ⟨g, 9, none⟩ p1).setCell ⟨g, 10, none⟩ q1).setCell ⟨g, 11, none⟩ r1).heap[g]? = some (.cells #[a1, b1, c1, d1, e1, f1, s1, l1, h1, p1, q1, r1] t (0, 0)) := by
  have k0 := (heap_setCell_same w g 0 _ _ a1 hh).trans (show _ = some (.cells #[a1, b, c, d, e, f, s, l, h, p, q, r] t (0, 0)) from rfl)
  have k1 := (heap_setCell_same (w.setCell ⟨g, 0, none⟩ a1) g 1 _ _ b1 k0).trans (show _ = some (.cells #[a1, b1, c, d, e, f, s, l, h, p, q, r] t (0, 0)) from rfl)
  have k2 := (heap_setCell_same ((w.setCell ⟨g, 0, none⟩ a1).setCell ⟨g, 1, none⟩ b1) g 2 _ _ c1 k1).trans (show _ = some (.cells #[a1, b1, c1, d, e, f, s, l, h, p, q, r] t (0, 0)) from rfl)
  have k3 := (heap_setCell_same (((w.setCell ⟨g, 0, none⟩ a1).setCell ⟨g, 1, none⟩ b1).setCell ⟨g, 2, none⟩ c1) g 3 _ _ d1 k2).trans (show _ = some (.cells #[a1, b1, c1, d1, e, f, s, l, h, p, q, r] t (0, 0)) from rfl)
  have k4 := (heap_setCell_same ((((w.setCell ⟨g, 0, none⟩ a1).setCell ⟨g, 1, none⟩ b1).setCell ⟨g, 2, none⟩ c1).setCell ⟨g, 3, none⟩ d1) g 4 _ _ e1 k3).trans (show _ = some (.cells #[a1, b1, c1, d1, e1, f, s, l, h, p, q, r] t (0, 0)) from rfl)
  have k5 := (heap_setCell_same (((((w.setCell ⟨g, 0, none⟩ a1).setCell ⟨g, 1, none⟩ b1).setCell ⟨g, 2, none⟩ c1).setCell ⟨g, 3, none⟩ d1).setCell ⟨g, 4, none⟩ e1) g 5 _ _ f1 k4).trans (show _ = some (.cells #[a1, b1, c1, d1, e1, f1, s, l, h, p, q, r] t (0, 0)) from rfl)
  have k6 := (heap_setCell_same ((((((w.setCell ⟨g, 0, none⟩ a1).setCell ⟨g, 1, none⟩ b1).setCell ⟨g, 2, none⟩ c1).setCell ⟨g, 3, none⟩ d1).setCell ⟨g, 4, none⟩ e1).setCell ⟨g, 5, none⟩ f1) g 6 _ _ s1 k5).trans (show _ = some (.cells #[a1, b1, c1, d1, e1, f1, s1, l, h, p, q, r] t (0, 0)) from rfl)
  have k7 := (heap_setCell_same (((((((w.setCell ⟨g, 0, none⟩ a1).setCell ⟨g, 1, none⟩ b1).setCell ⟨g, 2, none⟩ c1).setCell ⟨g, 3, none⟩ d1).setCell ⟨g, 4, none⟩ e1).setCell ⟨g, 5, none⟩ f1).setCell ⟨g, 6, none⟩ s1) g 7 _ _ l1 k6).trans (show _ = some (.cells #[a1, b1, c1, d1, e1, f1, s1, l1, h, p, q, r] t (0, 0)) from rfl)
  have k8 := (heap_setCell_same ((((((((w.setCell ⟨g, 0, none⟩ a1).setCell ⟨g, 1, none⟩ b1).setCell ⟨g, 2, none⟩ c1).setCell ⟨g, 3, none⟩ d1).setCell ⟨g, 4, none⟩ e1).setCell ⟨g, 5, none⟩ f1).setCell ⟨g, 6, none⟩ s1).setCell ⟨g, 7, none⟩ l1) g 8 _ _ h1 k7).trans (show _ = some (.cells #[a1, b1, c1, d1, e1, f1, s1, l1, h1, p, q, r] t (0, 0)) from rfl)
  have k9 := (heap_setCell_same (((((((((w.setCell ⟨g, 0, none⟩ a1).setCell ⟨g, 1, none⟩ b1).setCell ⟨g, 2, none⟩ c1).setCell ⟨g, 3, none⟩ d1).setCell ⟨g, 4, none⟩ e1).setCell ⟨g, 5, none⟩ f1).setCell ⟨g, 6, none⟩ s1).setCell ⟨g, 7, none⟩ l1).setCell ⟨g, 8, none⟩ h1) g 9 _ _ p1 k8).trans (show _ = some (.cells #[a1, b1, c1, d1, e1, f1, s1, l1, h1, p1, q, r] t (0, 0)) from rfl)
  have k10 := (heap_setCell_same ((((((((((w.setCell ⟨g, 0, none⟩ a1).setCell ⟨g, 1, none⟩ b1).setCell ⟨g, 2, none⟩ c1).setCell ⟨g, 3, none⟩ d1).setCell ⟨g, 4, none⟩ e1).setCell ⟨g, 5, none⟩ f1).setCell ⟨g, 6, none⟩ s1).setCell ⟨g, 7, none⟩ l1).setCell ⟨g, 8, none⟩ h1).setCell ⟨g, 9, none⟩ p1) g 10 _ _ q1 k9).trans (show _ = some (.cells #[a1, b1, c1, d1, e1, f1, s1, l1, h1, p1, q1, r] t (0, 0)) from rfl)
  have k11 := (heap_setCell_same (((((((((((w.setCell ⟨g, 0, none⟩ a1).setCell ⟨g, 1, none⟩ b1).setCell ⟨g, 2, none⟩ c1).setCell ⟨g, 3, none⟩ d1).setCell ⟨g, 4, none⟩ e1).setCell ⟨g, 5, none⟩ f1).setCell ⟨g, 6, none⟩ s1).setCell ⟨g, 7, none⟩ l1).setCell ⟨g, 8, none⟩ h1).setCell ⟨g, 9, none⟩ p1).setCell ⟨g, 10, none⟩ q1) g 11 _ _ r1 k10).trans (show _ = some (.cells #[a1, b1, c1, d1, e1, f1, s1, l1, h1, p1, q1, r1] t (0, 0)) from rfl)
  exact k11
set_option maxHeartbeats 4000000 in
theorem bel12 {w : World} {B g : Nat} (hg : B ≤ g) (a1 b1 c1 d1 e1 f1 s1 l1 h1 p1 q1 r1 : Value) : Below B w ((((((((((((w.setCell ⟨g, 0, none⟩ a1).setCell ⟨g, 1, none⟩ b1).setCell ⟨g, 2, none⟩ c1).setCell ⟨g, 3, none⟩ d1).setCell ⟨g, 4, none⟩ e1).setCell ⟨g, 5, none⟩ f1).setCell ⟨g, 6, none⟩ s1).setCell ⟨g, 7, none⟩ l1).setCell ⟨g, 8, none⟩ h1).setCell ⟨g, 9, none⟩ p1).setCell ⟨g, 10, none⟩ q1).setCell ⟨g, 11, none⟩ r1) := (((((((((((((Below.refl B w).setCell (p := ⟨g, 0, none⟩) hg a1).setCell (p := ⟨g, 1, none⟩) hg b1).setCell (p := ⟨g, 2, none⟩) hg c1).setCell (p := ⟨g, 3, none⟩) hg d1).setCell (p := ⟨g, 4, none⟩) hg e1).setCell (p := ⟨g, 5, none⟩) hg f1).setCell (p := ⟨g, 6, none⟩) hg s1).setCell (p := ⟨g, 7, none⟩) hg l1).setCell (p := ⟨g, 8, none⟩) hg h1).setCell (p := ⟨g, 9, none⟩) hg p1).setCell (p := ⟨g, 10, none⟩) hg q1).setCell (p := ⟨g, 11, none⟩) hg r1)
set_option maxHeartbeats 4000000 in
theorem heap12 {g b : Nat} (w : World) (hne : b ≠ g) (a1 b1 c1 d1 e1 f1 s1 l1 h1 p1 q1 r1 : Value) : ((((((((((((w.setCell ⟨g, 0, none⟩ a1).setCell ⟨g, 1, none⟩ b1).setCell ⟨g, 2, none⟩ c1).setCell ⟨g, 3, none⟩ d1).setCell ⟨g, 4, none⟩ e1).setCell ⟨g, 5, none⟩ f1).setCell ⟨g, 6, none⟩ s1).setCell ⟨g, 7, none⟩ l1).setCell ⟨g, 8, none⟩ h1).setCell ⟨g, 9, none⟩ p1).setCell ⟨g, 10, none⟩ q1).setCell ⟨g, 11, none⟩ r1).heap[b]? = w.heap[b]? := (Below.heap_setCell (((((((((((w.setCell ⟨g, 0, none⟩ a1).setCell ⟨g, 1, none⟩ b1).setCell ⟨g, 2, none⟩ c1).setCell ⟨g, 3, none⟩ d1).setCell ⟨g, 4, none⟩ e1).setCell ⟨g, 5, none⟩ f1).setCell ⟨g, 6, none⟩ s1).setCell ⟨g, 7, none⟩ l1).setCell ⟨g, 8, none⟩ h1).setCell ⟨g, 9, none⟩ p1).setCell ⟨g, 10, none⟩ q1) ⟨g, 11, none⟩ r1 b hne).trans ((Below.heap_setCell ((((((((((w.setCell ⟨g, 0, none⟩ a1).setCell ⟨g, 1, none⟩ b1).setCell ⟨g, 2, none⟩ c1).setCell ⟨g, 3, none⟩ d1).setCell ⟨g, 4, none⟩ e1).setCell ⟨g, 5, none⟩ f1).setCell ⟨g, 6, none⟩ s1).setCell ⟨g, 7, none⟩ l1).setCell ⟨g, 8, none⟩ h1).setCell ⟨g, 9, none⟩ p1) ⟨g, 10, none⟩ q1 b hne).trans ((Below.heap_setCell (((((((((w.setCell ⟨g, 0, none⟩ a1).setCell ⟨g, 1, none⟩ b1).setCell ⟨g, 2, none⟩ c1).setCell ⟨g, 3, none⟩ d1).setCell ⟨g, 4, none⟩ e1).setCell ⟨g, 5, none⟩ f1).setCell ⟨g, 6, none⟩ s1).setCell ⟨g, 7, none⟩ l1).setCell ⟨g, 8, none⟩ h1) ⟨g, 9, none⟩ p1 b hne).trans ((Below.heap_setCell ((((((((w.setCell ⟨g, 0, none⟩ a1).setCell ⟨g, 1, none⟩ b1).setCell ⟨g, 2, none⟩ c1).setCell ⟨g, 3, none⟩ d1).setCell ⟨g, 4, none⟩ e1).setCell ⟨g, 5, none⟩ f1).setCell ⟨g, 6, none⟩ s1).setCell ⟨g, 7, none⟩ l1) ⟨g, 8, none⟩ h1 b hne).trans ((Below.heap_setCell (((((((w.setCell ⟨g, 0, none⟩ a1).setCell ⟨g, 1, none⟩ b1).setCell ⟨g, 2, none⟩ c1).setCell ⟨g, 3, none⟩ d1).setCell ⟨g, 4, none⟩ e1).setCell ⟨g, 5, none⟩ f1).setCell ⟨g, 6, none⟩ s1) ⟨g, 7, none⟩ l1 b hne).trans ((Below.heap_setCell ((((((w.setCell ⟨g, 0, none⟩ a1).setCell ⟨g, 1, none⟩ b1).setCell ⟨g, 2, none⟩ c1).setCell ⟨g, 3, none⟩ d1).setCell ⟨g, 4, none⟩ e1).setCell ⟨g, 5, none⟩ f1) ⟨g, 6, none⟩ s1 b hne).trans ((Below.heap_setCell (((((w.setCell ⟨g, 0, none⟩ a1).setCell ⟨g, 1, none⟩ b1).setCell ⟨g, 2, none⟩ c1).setCell ⟨g, 3, none⟩ d1).setCell ⟨g, 4, none⟩ e1) ⟨g, 5, none⟩ f1 b hne).trans ((Below.heap_setCell ((((w.setCell ⟨g, 0, none⟩ a1).setCell ⟨g, 1, none⟩ b1).setCell ⟨g, 2, none⟩ c1).setCell ⟨g, 3, none⟩ d1) ⟨g, 4, none⟩ e1 b hne).trans ((Below.heap_setCell (((w.setCell ⟨g, 0, none⟩ a1).setCell ⟨g, 1, none⟩ b1).setCell ⟨g, 2, none⟩ c1) ⟨g, 3, none⟩ d1 b hne).trans ((Below.heap_setCell ((w.setCell ⟨g, 0, none⟩ a1).setCell ⟨g, 1, none⟩ b1) ⟨g, 2, none⟩ c1 b hne).trans ((Below.heap_setCell (w.setCell ⟨g, 0, none⟩ a1) ⟨g, 1, none⟩ b1 b hne).trans (Below.heap_setCell w ⟨g, 0, none⟩ a1 b hne)))))))))))
set_option maxHeartbeats 4000000 in
theorem set12_11 {w : World} {g : Nat} {a b c d e f s l h p q r : Value} {t : TypeId} (hh : w.heap[g]? = some (.cells #[a, b, c, d, e, f, s, l, h, p, q, r] t (0, 0))) (v : Value) : (w.setCell ⟨g, 11, none⟩ v).heap[g]? = some (.cells #[a, b, c, d, e, f, s, l, h, p, q, v] t (0, 0)) := (heap_setCell_same w g 11 _ _ v hh).trans rfl
theorem c2 {w : World} {g : Nat} {a b : Value} {t : TypeId} (h : w.heap[g]? = some (.cells #[a, b] t (0, 0))) : w.cell? ⟨g, 0, none⟩ = some a ∧ w.cell? ⟨g, 1, none⟩ = some b :=
  ⟨cell_of_row w g 0 _ _ _ h, cell_of_row w g 1 _ _ _ h⟩
theorem ints_kept {w w' : World} {b : Nat} {xs : List Int} (h : Dice.Ints w b xs) (e : w'.heap[b]? = w.heap[b]?) : Dice.Ints w' b xs := fun j hj => (World.cell?_of_block (a := ⟨b, j, none⟩) e).trans (h j hj)
/-- The numbers of a record. -/
structure RecN (st fi er ru se : Int) : Prop where
  s0 : 1000000000000 ≤ st
  s9 : st ≤ 1000010000000
  fi_ : fi ∈ [(0 : Int), 0, 3]
  er_ : er ∈ [(0 : Int), 0, 10, 500]
  r0 : 0 ≤ ru
  r9 : ru < 2
  q0 : 0 ≤ se
  q9 : se < 6
/-- The memory while samples are made. -/
structure RM (W w : World) (g : Nat) (a : Option Addr) (len cap : Nat) (zs : List Int) (p6 p9 : Nat) (CC : Value → Array Value) (wr : World) (v9 vo : Value) (no : Nat) (xs : List Value) : Prop where
  left : Dice.Left W w wr g a len cap zs
  own : wr.ownsRow (p9 + 1) 3 1 vo no xs
  k6 : wr.heap[p6]? = some (.cells #[.string ⟨#[]⟩, .string ⟨#[]⟩, .string ⟨#[]⟩, .string ⟨#[]⟩, .int .i64 0, .int .i64 0, .int .i64 0, .int .i64 0, .int .i64 0, .int .i64 0, .int .i64 0, .slice none 0 0] 32 (0, 0))
  k9 : wr.heap[p9]? = some (.cells (CC v9) 32 (0, 0))
  og : g < w.heap.size
  o6 : w.heap.size < p6
  o9 : p6 < p9
theorem own_kept {w w' : World} {B sz : Nat} {e : TypeId} {v : Value} {n : Nat} {xs : List Value} (h : w.ownsRow B e sz v n xs) (hb : ∀ k, v.ownBlock = some k → w'.heap[k]? = w.heap[k]?) : w'.ownsRow B e sz v n xs := by
  refine ⟨h.1, h.2.imp id ?_⟩
  rintro ⟨g, cap, cur, rfl, h1, h2, h3⟩
  exact ⟨g, cap, cur, rfl, h1, (hb g rfl).trans h2, h3⟩
theorem own_mono {w : World} {B B' sz : Nat} {e : TypeId} {v : Value} {n : Nat} {xs : List Value} (h : w.ownsRow B e sz v n xs) (hB : B' ≤ B) : w.ownsRow B' e sz v n xs :=
  ⟨h.1, h.2.imp id fun ⟨g, cap, cur, h1, h2, h3⟩ => ⟨g, cap, cur, h1, by omega, h3⟩⟩
theorem own_letter {w : World} {B sz : Nat} {e : TypeId} {v : Value} {n : Nat} {xs : List Value} (h : w.ownsRow B e sz v n xs) : ∃ a m c, v = .slice a m c ∧ Hid (m = n) := by
  rcases h.2 with ⟨rfl, rfl⟩ | ⟨g, c, _, rfl, _⟩
  · exact ⟨none, 0, 0, rfl, Lib.hid rfl⟩
  · exact ⟨_, n, c, rfl, Lib.hid rfl⟩
section
variable {W w : World} {g : Nat} {a : Option Addr} {len cap : Nat} {zs : List Int} {p6 p9 : Nat} {CC : Value → Array Value} {wr w' : World} {v9 vo : Value} {no : Nat} {xs : List Value}
theorem RM.trans (M : RM W w g a len cap zs p6 p9 CC wr v9 vo no xs) (hl : Dice.Left W wr w' g a len cap zs) : RM W w g a len cap zs p6 p9 CC w' v9 vo no xs := by
  obtain ⟨l, o, k6, k9, og, o6, o9⟩ := M
  have z6 := (Array.getElem?_eq_some_iff.1 k6).1
  have z9 := (Array.getElem?_eq_some_iff.1 k9).1
  exact ⟨l.trans hl, own_kept o fun k hk => hl.far.block k (o.lt k hk).2 (by have := (o.lt k hk).1; simp; omega), (hl.far.block p6 z6 (by simp; omega)).trans k6, (hl.far.block p9 z9 (by simp; omega)).trans k9, og, o6, o9⟩
theorem RM.below (M : RM W w g a len cap zs p6 p9 CC wr v9 vo no xs) (h : Below wr.heap.size wr w') : RM W w g a len cap zs p6 p9 CC w' v9 vo no xs := by
  obtain ⟨l, o, k6, k9, og, o6, o9⟩ := M
  exact ⟨l.below h, own_kept o fun k hk => h.block k (o.lt k hk).2, hb h k6, hb h k9, og, o6, o9⟩
theorem RM.grow (M : RM W w g a len cap zs p6 p9 CC wr v9 vo no xs) (hg : wr.grownBy w' vo.ownBlock) {vo' : Value} {no' : Nat} {xs' : List Value} (ho : w'.ownsRow (p9 + 1) 3 1 vo' no' xs') (H : Dice.Di W w g a len cap zs) : RM W w g a len cap zs p6 p9 CC w' v9 vo' no' xs' := by
  obtain ⟨l, o, k6, k9, og, o6, o9⟩ := M
  have z9 := (Array.getElem?_eq_some_iff.1 k9).1
  have K : ∀ b, b ≤ p9 → w'.heap[b]? = wr.heap[b]? := fun b hb' => hg.block b (by omega) (fun he => by have := (o.lt b he.symm).1; omega)
  exact ⟨Dice.Left.past H l ((Below.refl _ _).grown hg (by omega) fun k hk => by have := (o.lt k hk).1; omega), ho, (K _ (by omega)).trans k6, (K _ (by omega)).trans k9, og, o6, o9⟩
theorem RM.store9 (M : RM W w g a len cap zs p6 p9 CC wr v9 vo no xs) (H : Dice.Di W w g a len cap zs) (hC : ∃ c0 c1 c2 c3 c4 c5 c6 c7 c8 c9 c10 : Value, ∀ u, CC u = #[c0, c1, c2, c3, c4, c5, c6, c7, c8, c9, c10, u]) (v : Value) : RM W w g a len cap zs p6 p9 CC (wr.setCell ⟨p9, 11, none⟩ v) v vo no xs := by
  obtain ⟨l, o, k6, k9, og, o6, o9⟩ := M
  obtain ⟨c0, c1, c2, c3, c4, c5, c6, c7, c8, c9, c10, hC⟩ := hC
  rw [hC] at k9
  refine ⟨Dice.Left.past H l ((Below.refl _ _).setCell (by show w.heap.size ≤ p9; omega) _), own_kept o fun k hk => Below.heap_setCell wr ⟨p9, 11, none⟩ v k (by have := (o.lt k hk).1; show k ≠ p9; omega), (Below.heap_setCell wr ⟨p9, 11, none⟩ v p6 (by show p6 ≠ p9; omega)).trans k6, ?_, og, o6, o9⟩
  rw [hC]
  exact set12_11 k9 v
end
/-- What Record returns. -/
def RecSaid (B : Nat) (S0 S1 S2 S3 : ByteArray) (n : Nat) (r : Ending) (w' : World) : Prop := ∃ (st fi num den er ru se : Int) (ad : Option Addr) (kk cc : Nat) (xs : List Int), r = .returned (.agg #[.string S0, .string S1, .string S2, .string S3, .int .i64 st, .int .i64 fi, .int .i64 num, .int .i64 den, .int .i64 er, .int .i64 ru, .int .i64 se, .slice ad kk cc]) ∧ RecN st fi er ru se ∧ (∃ va vb gg : Int, Rate.Dv va vb gg ∧ (1 ≤ va ∧ va ≤ 3) ∧ (1 ≤ vb ∧ vb ≤ 3) ∧ va / gg = num ∧ vb / gg = den) ∧ w'.ownsRow B 3 1 (.slice ad kk cc) kk (xs.map fun z => Value.int .i64 z) ∧ kk = xs.length ∧ 1 ≤ kk ∧ kk ≤ n ∧ ∀ x ∈ xs, 0 ≤ x ∧ x < 4
set_option maxHeartbeats 8000000 in
set_option maxRecDepth 100000 in
theorem record_any (S0 S1 S2 S3 : ByteArray) (n : Nat) (n1 : 1 ≤ n) (n9 : n ≤ 20) {W w : World} {g : Nat} {a : Option Addr} {len cap : Nat} {zs : List Int} (h : Di W w g a len cap zs) :
    Calls Try.prog 9 #[.pointer (some ⟨g, 0, none⟩), .agg #[.string S0, .string S1, .string S2, .string S3], .int .i64 (n : Int)] w fun r w' => RecSaid w.heap.size S0 S1 S2 S3 n r w' ∧ Dice.Left W w w' g a len cap zs := by
  obtain ⟨i0, hi, hz0, hz1, hz2⟩ : ∃ i, Try.prog.info? 3 = some i ∧ i.zero = some (.int .i64 0) ∧ i.size = 1 ∧ i.bytes = 8 := ⟨_, rfl, by kernel_rfl, by kernel_rfl, by kernel_rfl⟩
  have H := Lib.hid h
  have hg := h.lt
  obtain ⟨w0, hw0e⟩ : ∃ w0, w0 = (w.alloc (.cells #[.string S0, .string S1, .string S2, .string S3] 28)).alloc (.cells #[.string ⟨#[]⟩, .string ⟨#[]⟩, .string ⟨#[]⟩, .string ⟨#[]⟩, .int .i64 0, .int .i64 0, .int .i64 0, .int .i64 0, .int .i64 0, .int .i64 0, .int .i64 0, .slice none 0 0] 32) := ⟨_, rfl⟩
  have eS : (w.alloc (.cells #[.string S0, .string S1, .string S2, .string S3] 28)).heap.size = w.heap.size + 1 := by simp
  have Y0 : Hid (Below w.heap.size w w0) := Lib.hid (by rw [hw0e]; exact (new_block _).alloc (by simp) _)
  have K4 := Lib.hid (show w0.heap[w.heap.size]? = some (.cells #[.string S0, .string S1, .string S2, .string S3] 28 (0, 0)) by rw [hw0e]; exact (heap_alloc_old _ _ (by simp)).trans (heap_alloc_new w _))
  have K6 := Lib.hid (show w0.heap[w.heap.size + 1]? = some (.cells #[.string ⟨#[]⟩, .string ⟨#[]⟩, .string ⟨#[]⟩, .string ⟨#[]⟩, .int .i64 0, .int .i64 0, .int .i64 0, .int .i64 0, .int .i64 0, .int .i64 0, .int .i64 0, .slice none 0 0] 32 (0, 0)) by rw [hw0e, ← eS]; exact heap_alloc_new _ _)
  have L0 := Lib.hid ((Dice.Left.refl h).below Y0.out)
  clear h
  go_enter Try.func9, Try.ntmps9
  go_upto_region 1 with fail
  rw [← hw0e]
  clear hw0e eS Y0
  have I3 : Hid (Dice.Ints (w0.alloc (.cells #[.int .i64 1, .int .i64 2, .int .i64 2, .int .i64 3] 3)) w0.heap.size [1, 2, 2, 3]) := Lib.hid (by simpa using Dice.ints_alloc w0 [1, 2, 2, 3] 3)
  have Y3 : Hid (Below w0.heap.size w0 (w0.alloc (.cells #[.int .i64 1, .int .i64 2, .int .i64 2, .int .i64 3] 3))) := Lib.hid (new_block _)
  have z0 := (Array.getElem?_eq_some_iff.1 K6.out).1
  go_wp2_with fail
  refine (pick_any w0.heap.size [1, 2, 2, 3] 4 4 (L0.out.below Y3.out).di I3.out rfl (by omega) (by omega) (by omega) (by simp)).mono ?_
  rintro e w1 ⟨⟨va, rfl, hva⟩, hl⟩
  replace K4 := Lib.hid ((hl.far.block _ (by have := Y3.out.size; have := z0; omega) (by simp; omega)).trans (hb Y3.out K4.out))
  replace K6 := Lib.hid ((hl.far.block _ (by have := Y3.out.size; have := z0; omega) (by simp; omega)).trans (hb Y3.out K6.out))
  replace L0 := Lib.hid ((L0.out.below Y3.out).trans hl)
  clear hl I3 Y3 z0
  have I3 : Hid (Dice.Ints (w1.alloc (.cells #[.int .i64 1, .int .i64 1, .int .i64 1, .int .i64 3] 3)) w1.heap.size [1, 1, 1, 3]) := Lib.hid (by simpa using Dice.ints_alloc w1 [1, 1, 1, 3] 3)
  have Y3 : Hid (Below w1.heap.size w1 (w1.alloc (.cells #[.int .i64 1, .int .i64 1, .int .i64 1, .int .i64 3] 3))) := Lib.hid (new_block _)
  have z0 := (Array.getElem?_eq_some_iff.1 K6.out).1
  go_wp2_with fail
  refine (pick_any w1.heap.size [1, 1, 1, 3] 4 4 (L0.out.below Y3.out).di I3.out rfl (by omega) (by omega) (by omega) (by simp)).mono ?_
  rintro e w3 ⟨⟨vb, rfl, hvb⟩, hl⟩
  replace K4 := Lib.hid ((hl.far.block _ (by have := Y3.out.size; have := z0; omega) (by simp; omega)).trans (hb Y3.out K4.out))
  replace K6 := Lib.hid ((hl.far.block _ (by have := Y3.out.size; have := z0; omega) (by simp; omega)).trans (hb Y3.out K6.out))
  replace L0 := Lib.hid ((L0.out.below Y3.out).trans hl)
  clear hl I3 Y3 z0
  have ha : 1 ≤ va ∧ va ≤ 3 := by simp only [List.mem_cons, List.not_mem_nil, or_false] at hva; omega
  have hb' : 1 ≤ vb ∧ vb ≤ 3 := by simp only [List.mem_cons, List.not_mem_nil, or_false] at hvb; omega
  obtain ⟨gg, hdv, _⟩ := Rate.dv_of va vb (by omega) (by omega) (by omega) (by omega)
  have RN := Lib.hid fun w => Rate.ref_new_ok va vb gg w (by omega) (by omega) (by omega) (by omega) hdv
  go_wp2_with fail
  with_reducible refine (RN.out _).mono ?_
  rintro e w4 ⟨rfl, hc⟩
  replace K4 := Lib.hid (hb hc K4.out)
  replace K6 := Lib.hid (hb hc K6.out)
  replace L0 := Lib.hid (L0.out.below hc)
  clear hc RN
  generalize hnum : va / gg = num
  generalize hden : vb / gg = den
  replace hnum := Lib.hid hnum
  replace hden := Lib.hid hden
  obtain ⟨w2, hw2⟩ : ∃ w2, w2 = w4.alloc (.cells #[.int .i64 num, .int .i64 den] 30) := ⟨_, rfl⟩
  have Y2 : Hid (Below w4.heap.size w4 w2) := Lib.hid (by rw [hw2]; exact new_block _)
  have K7 := Lib.hid (show w2.heap[w4.heap.size]? = some (.cells #[.int .i64 num, .int .i64 den] 30 (0, 0)) by rw [hw2]; exact heap_alloc_new w4 _)
  have t6 := (Array.getElem?_eq_some_iff.1 K6.out).1
  go_upto_region 2 with fail
  rw [← hw2]
  clear hw2
  obtain ⟨b7, hb7⟩ : ∃ b7, b7 = w4.heap.size := ⟨_, rfl⟩
  rw [← hb7] at K7 t6 ⊢
  clear hb7
  replace K4 := Lib.hid (hb Y2.out K4.out)
  replace K6 := Lib.hid (hb Y2.out K6.out)
  replace L0 := Lib.hid (L0.out.below Y2.out)
  clear Y2
  have hw0 : Dice.Left W w w2.drew g a len cap zs ∧ w2.drew.heap[w.heap.size]? = some (.cells #[.string S0, .string S1, .string S2, .string S3] 28 (0, 0)) ∧ w2.drew.heap[w.heap.size + 1]? = some (.cells #[.string ⟨#[]⟩, .string ⟨#[]⟩, .string ⟨#[]⟩, .string ⟨#[]⟩, .int .i64 0, .int .i64 0, .int .i64 0, .int .i64 0, .int .i64 0, .int .i64 0, .int .i64 0, .slice none 0 0] 32 (0, 0)) ∧ w2.drew.heap[b7]? = some (.cells #[.int .i64 num, .int .i64 den] 30 (0, 0)) := ⟨L0.out.below ((Below.refl _ _).drew), K4.out, K6.out, K7.out⟩
  refine wp_region_noPanic ?_
  refine wp_region_any (by kernel_rfl) ?_
  refine Inv.wpAny_inv (fun k => k == 18) [21, 22, 23, 24, 25, 26, 27, 28, 29, 30, 31, 32, 33, 34, 35, 36, 37, 9] (fun w' => Dice.Left W w w' g a len cap zs ∧ w'.heap[w.heap.size]? = some (.cells #[.string S0, .string S1, .string S2, .string S3] 28 (0, 0)) ∧ w'.heap[w.heap.size + 1]? = some (.cells #[.string ⟨#[]⟩, .string ⟨#[]⟩, .string ⟨#[]⟩, .string ⟨#[]⟩, .int .i64 0, .int .i64 0, .int .i64 0, .int .i64 0, .int .i64 0, .int .i64 0, .int .i64 0, .slice none 0 0] 32 (0, 0)) ∧ w'.heap[b7]? = some (.cells #[.int .i64 num, .int .i64 den] 30 (0, 0))) (fun _ w1 w2 => w1.grownBy w2 (some g)) (fun k => ([fun v_ w_ => v_ = .agg #[.string S0, .string S1, .string S2, .string S3], fun v_ w_ => v_ = .pointer (some ⟨g, 0, none⟩), fun v_ w_ => ∃ i_ : Int, v_ = .int .i64 i_ ∧ 0 ≤ i_ ∧ i_ < 40, fun v_ w_ => ∃ i_ : Int, v_ = .int .i64 (250000 * i_) ∧ 0 ≤ i_ ∧ i_ < 40, fun v_ w_ => ∃ i_ : Int, v_ = .int .i64 i_ ∧ 1000000000000 ≤ i_ ∧ i_ ≤ 1000010000000, fun v_ w_ => v_ = .pointer (some ⟨g, 0, none⟩), fun v_ w_ => ∃ b_ : Nat, v_ = .slice (some ⟨b_, 0, none⟩) 3 3 ∧ Dice.Ints w_ b_ [0, 0, 3] ∧ b_ ≠ g ∧ b_ < w_.heap.size, fun v_ w_ => ∃ i_ : Int, v_ = .int .i64 i_ ∧ i_ ∈ [(0 : Int), 0, 3], fun v_ w_ => v_ = .agg #[.int .i64 num, .int .i64 den], fun v_ w_ => v_ = .pointer (some ⟨g, 0, none⟩), fun v_ w_ => ∃ b_ : Nat, v_ = .slice (some ⟨b_, 0, none⟩) 4 4 ∧ Dice.Ints w_ b_ [0, 0, 10, 500] ∧ b_ ≠ g ∧ b_ < w_.heap.size, fun v_ w_ => ∃ i_ : Int, v_ = .int .i64 i_ ∧ i_ ∈ [(0 : Int), 0, 10, 500], fun v_ w_ => v_ = .pointer (some ⟨g, 0, none⟩), fun v_ w_ => ∃ i_ : Int, v_ = .int .i64 i_ ∧ 0 ≤ i_ ∧ i_ < 2, fun v_ w_ => v_ = .pointer (some ⟨g, 0, none⟩), fun v_ w_ => ∃ i_ : Int, v_ = .int .i64 i_ ∧ 0 ≤ i_ ∧ i_ < 6, fun v_ w_ => ∃ st fi er ru se : Int, v_ = .agg #[.string S0, .string S1, .string S2, .string S3, .int .i64 st, .int .i64 fi, .int .i64 num, .int .i64 den, .int .i64 er, .int .i64 ru, .int .i64 se, .slice none 0 0] ∧ RecN st fi er ru se, fun v_ w_ => ∃ b_ : Nat, v_ = .pointer (some ⟨b_, 0, none⟩) ∧ w_.heap[b_]? = some (.cells #[.string ⟨#[]⟩, .string ⟨#[]⟩, .string ⟨#[]⟩, .string ⟨#[]⟩, .int .i64 0, .int .i64 0, .int .i64 0, .int .i64 0, .int .i64 0, .int .i64 0, .int .i64 0, .slice none 0 0] 32 (0, 0)) ∧ b_ ≠ g ∧ w.heap.size + 1 < b_, fun v_ w_ => True] : List (Value → World → Prop)).getD k (fun _ _ => True)) _ (fun σ => by simp only [Inv.putAll, List.foldl_cons, List.foldl_nil, Act.put, List.setIfInBounds_toArray, List.set_cons_zero, List.set_cons_succ]; rfl) (by kernel_rfl) (by kernel_rfl) ?_ hw0 ?_ ?_ 1 #[true, true, true, true, true, true, true, true, true, true, true, true, true, true, true, true, true, true, false] (by kernel_rfl) (by kernel_rfl) ?_
  · intro j k v w1 w2 hjk hv hr
    rcases k with _ | k
    · exact hv
    rcases k with _ | k
    · exact hv
    rcases k with _ | k
    · exact hv
    rcases k with _ | k
    · exact hv
    rcases k with _ | k
    · exact hv
    rcases k with _ | k
    · exact hv
    rcases k with _ | k
    · exact (by obtain ⟨b, h1, h2, h3, h4⟩ := hv; exact ⟨b, h1, ints_kept h2 (hr.block b h4 (by simpa using h3)), h3, Nat.lt_of_lt_of_le h4 hr.size⟩)
    rcases k with _ | k
    · exact hv
    rcases k with _ | k
    · exact hv
    rcases k with _ | k
    · exact hv
    rcases k with _ | k
    · exact (by obtain ⟨b, h1, h2, h3, h4⟩ := hv; exact ⟨b, h1, ints_kept h2 (hr.block b h4 (by simpa using h3)), h3, Nat.lt_of_lt_of_le h4 hr.size⟩)
    rcases k with _ | k
    · exact hv
    rcases k with _ | k
    · exact hv
    rcases k with _ | k
    · exact hv
    rcases k with _ | k
    · exact hv
    rcases k with _ | k
    · exact hv
    rcases k with _ | k
    · exact hv
    rcases k with _ | k
    · exact (by obtain ⟨b, h1, h2, h3, h4⟩ := hv; exact ⟨b, h1, (hr.block b (Array.getElem?_eq_some_iff.1 h2).1 (by simpa using h3)).trans h2, h3, h4⟩)
    rcases k with _ | k
    · exact hv
    · exact hv
  · intro k t hl hd
    rcases k with _ | k
    · exact absurd hl (by decide +kernel)
    rcases k with _ | k
    · exact absurd hl (by decide +kernel)
    rcases k with _ | k
    · exact absurd hl (by decide +kernel)
    rcases k with _ | k
    · exact absurd hl (by decide +kernel)
    rcases k with _ | k
    · exact absurd hl (by decide +kernel)
    rcases k with _ | k
    · exact absurd hl (by decide +kernel)
    rcases k with _ | k
    · exact absurd hl (by decide +kernel)
    rcases k with _ | k
    · exact absurd hl (by decide +kernel)
    rcases k with _ | k
    · exact absurd hl (by decide +kernel)
    rcases k with _ | k
    · exact absurd hl (by decide +kernel)
    rcases k with _ | k
    · exact absurd hl (by decide +kernel)
    rcases k with _ | k
    · exact absurd hl (by decide +kernel)
    rcases k with _ | k
    · exact absurd hl (by decide +kernel)
    rcases k with _ | k
    · exact absurd hl (by decide +kernel)
    rcases k with _ | k
    · exact absurd hl (by decide +kernel)
    rcases k with _ | k
    · exact absurd hl (by decide +kernel)
    rcases k with _ | k
    · exact absurd hl (by decide +kernel)
    rcases k with _ | k
    · exact absurd hl (by decide +kernel)
    rcases k with _ | k
    · exact absurd hl (by decide +kernel)
    · simp at hd
  · show Inv.Steps _ _ _ _ _ _ _ _ [0, 1, 2, 3, 4, 5, 6, 7, 8, 9, 10, 11, 12, 13, 14, 15, 16, 17]
    refine Inv.Steps.go (by decide) (by rfl) (fun σ wx hw hd K hK => ?_) ?_
    · simp only [List.getElem_toArray, List.getElem_cons_zero, List.getElem_cons_succ, Act.put, List.setIfInBounds_toArray, List.set_cons_zero, List.set_cons_succ] at hK ⊢
      obtain ⟨f0, f1, f2, f3⟩ := c4 hw.2.1
      go_simp
      exact hK.out _ _ hw (World.grownBy.refl _ _) (rfl)
    refine Inv.Steps.go (by decide) (by rfl) (fun σ wx hw hd K hK => ?_) ?_
    · simp only [List.getElem_toArray, List.getElem_cons_zero, List.getElem_cons_succ, Act.put, List.setIfInBounds_toArray, List.set_cons_zero, List.set_cons_succ] at hK ⊢
      go_simp
      exact hK.out _ _ hw (World.grownBy.refl _ _) (rfl)
    refine Inv.Steps.go (by decide) (by rfl) (fun σ wx hw hd K hK => ?_) ?_
    · obtain e22 : (σ 22) = .pointer (some ⟨g, 0, none⟩) := hd 1 (some 22) (by kernel_rfl) (by rfl)
      simp only [List.getElem_toArray, List.getElem_cons_zero, List.getElem_cons_succ, Act.put, List.setIfInBounds_toArray, List.set_cons_zero, List.set_cons_succ, e22] at hK ⊢
      go_simp
      go_at_call 19
      refine (next_any 40 hw.1.di (by omega) (by omega)).mono ?_
      rintro e w1 ⟨⟨iv, rfl, iv0, iv1⟩, hl⟩
      dsimp only
      exact hK.out _ _ ⟨hw.1.trans hl, hl.far.block _ (Array.getElem?_eq_some_iff.1 hw.2.1).1 (by simp; omega) |>.trans hw.2.1, hl.far.block _ (Array.getElem?_eq_some_iff.1 hw.2.2.1).1 (by simp; omega) |>.trans hw.2.2.1, hl.far.block _ (Array.getElem?_eq_some_iff.1 hw.2.2.2).1 (by simp; omega) |>.trans hw.2.2.2⟩ hl.far (⟨iv, rfl, iv0, iv1⟩)
    refine Inv.Steps.go (by decide) (by rfl) (fun σ wx hw hd K hK => ?_) ?_
    · obtain ⟨i23, e23, x23, y23⟩ : ∃ i_ : Int, (σ 23) = .int .i64 i_ ∧ 0 ≤ i_ ∧ i_ < 40 := hd 2 (some 23) (by kernel_rfl) (by rfl)
      simp only [List.getElem_toArray, List.getElem_cons_zero, List.getElem_cons_succ, Act.put, List.setIfInBounds_toArray, List.set_cons_zero, List.set_cons_succ, e23] at hK ⊢
      have qw : IntKind.i64.wrap (250000 * i23) = 250000 * i23 := IntWalk.i64_in _ (by omega)
      go_simp
      try rw [qw]
      exact hK.out _ _ hw (World.grownBy.refl _ _) (⟨i23, rfl, x23, y23⟩)
    refine Inv.Steps.go (by decide) (by rfl) (fun σ wx hw hd K hK => ?_) ?_
    · obtain ⟨i24, e24, x24, y24⟩ : ∃ i_ : Int, (σ 24) = .int .i64 (250000 * i_) ∧ 0 ≤ i_ ∧ i_ < 40 := hd 3 (some 24) (by kernel_rfl) (by rfl)
      simp only [List.getElem_toArray, List.getElem_cons_zero, List.getElem_cons_succ, Act.put, List.setIfInBounds_toArray, List.set_cons_zero, List.set_cons_succ, e24] at hK ⊢
      have qw : IntKind.i64.wrap (1000000000000 + 250000 * i24) = 1000000000000 + 250000 * i24 := IntWalk.i64_in _ (by omega)
      go_simp
      try rw [qw]
      exact hK.out _ _ hw (World.grownBy.refl _ _) (⟨1000000000000 + 250000 * i24, rfl, by omega, by omega⟩)
    refine Inv.Steps.go (by decide) (by rfl) (fun σ wx hw hd K hK => ?_) ?_
    · simp only [List.getElem_toArray, List.getElem_cons_zero, List.getElem_cons_succ, Act.put, List.setIfInBounds_toArray, List.set_cons_zero, List.set_cons_succ] at hK ⊢
      go_simp
      exact hK.out _ _ hw (World.grownBy.refl _ _) (rfl)
    refine Inv.Steps.go (by decide) (by rfl) (fun σ wx hw hd K hK => ?_) ?_
    · simp only [List.getElem_toArray, List.getElem_cons_zero, List.getElem_cons_succ, Act.put, List.setIfInBounds_toArray, List.set_cons_zero, List.set_cons_succ] at hK ⊢
      have hlt := hw.1.di.lt
      have hsz := hw.1.far.size
      go_simp
      exact hK.out _ _ ⟨hw.1.below (new_block _), hb (new_block _) hw.2.1, hb (new_block _) hw.2.2.1, hb (new_block _) hw.2.2.2⟩ (grown_of_below (new_block _)) (⟨wx.heap.size, rfl, by simpa using Dice.ints_alloc wx [0, 0, 3] 3, by omega, by simp⟩)
    refine Inv.Steps.go (by decide) (by rfl) (fun σ wx hw hd K hK => ?_) ?_
    · obtain e26 : (σ 26) = .pointer (some ⟨g, 0, none⟩) := hd 5 (some 26) (by kernel_rfl) (by rfl)
      obtain ⟨b27, e27, c27, n27, m27⟩ : ∃ b_ : Nat, (σ 27) = .slice (some ⟨b_, 0, none⟩) 3 3 ∧ Dice.Ints wx b_ [0, 0, 3] ∧ b_ ≠ g ∧ b_ < wx.heap.size := hd 6 (some 27) (by kernel_rfl) (by rfl)
      simp only [List.getElem_toArray, List.getElem_cons_zero, List.getElem_cons_succ, Act.put, List.setIfInBounds_toArray, List.set_cons_zero, List.set_cons_succ, e26, e27] at hK ⊢
      go_simp
      go_at_call 26
      refine (pick_any b27 [0, 0, 3] 3 3 hw.1.di c27 rfl (by omega) (by omega) n27 m27).mono ?_
      rintro e w1 ⟨⟨iv, rfl, iv0⟩, hl⟩
      dsimp only
      exact hK.out _ _ ⟨hw.1.trans hl, hl.far.block _ (Array.getElem?_eq_some_iff.1 hw.2.1).1 (by simp; omega) |>.trans hw.2.1, hl.far.block _ (Array.getElem?_eq_some_iff.1 hw.2.2.1).1 (by simp; omega) |>.trans hw.2.2.1, hl.far.block _ (Array.getElem?_eq_some_iff.1 hw.2.2.2).1 (by simp; omega) |>.trans hw.2.2.2⟩ hl.far (⟨iv, rfl, iv0⟩)
    refine Inv.Steps.go (by decide) (by rfl) (fun σ wx hw hd K hK => ?_) ?_
    · simp only [List.getElem_toArray, List.getElem_cons_zero, List.getElem_cons_succ, Act.put, List.setIfInBounds_toArray, List.set_cons_zero, List.set_cons_succ] at hK ⊢
      obtain ⟨f0, f1⟩ := c2 hw.2.2.2
      go_simp
      exact hK.out _ _ hw (World.grownBy.refl _ _) (rfl)
    refine Inv.Steps.go (by decide) (by rfl) (fun σ wx hw hd K hK => ?_) ?_
    · simp only [List.getElem_toArray, List.getElem_cons_zero, List.getElem_cons_succ, Act.put, List.setIfInBounds_toArray, List.set_cons_zero, List.set_cons_succ] at hK ⊢
      go_simp
      exact hK.out _ _ hw (World.grownBy.refl _ _) (rfl)
    refine Inv.Steps.go (by decide) (by rfl) (fun σ wx hw hd K hK => ?_) ?_
    · simp only [List.getElem_toArray, List.getElem_cons_zero, List.getElem_cons_succ, Act.put, List.setIfInBounds_toArray, List.set_cons_zero, List.set_cons_succ] at hK ⊢
      have hlt := hw.1.di.lt
      have hsz := hw.1.far.size
      go_simp
      exact hK.out _ _ ⟨hw.1.below (new_block _), hb (new_block _) hw.2.1, hb (new_block _) hw.2.2.1, hb (new_block _) hw.2.2.2⟩ (grown_of_below (new_block _)) (⟨wx.heap.size, rfl, by simpa using Dice.ints_alloc wx [0, 0, 10, 500] 3, by omega, by simp⟩)
    refine Inv.Steps.go (by decide) (by rfl) (fun σ wx hw hd K hK => ?_) ?_
    · obtain e30 : (σ 30) = .pointer (some ⟨g, 0, none⟩) := hd 9 (some 30) (by kernel_rfl) (by rfl)
      obtain ⟨b31, e31, c31, n31, m31⟩ : ∃ b_ : Nat, (σ 31) = .slice (some ⟨b_, 0, none⟩) 4 4 ∧ Dice.Ints wx b_ [0, 0, 10, 500] ∧ b_ ≠ g ∧ b_ < wx.heap.size := hd 10 (some 31) (by kernel_rfl) (by rfl)
      simp only [List.getElem_toArray, List.getElem_cons_zero, List.getElem_cons_succ, Act.put, List.setIfInBounds_toArray, List.set_cons_zero, List.set_cons_succ, e30, e31] at hK ⊢
      go_simp
      go_at_call 26
      refine (pick_any b31 [0, 0, 10, 500] 4 4 hw.1.di c31 rfl (by omega) (by omega) n31 m31).mono ?_
      rintro e w1 ⟨⟨iv, rfl, iv0⟩, hl⟩
      dsimp only
      exact hK.out _ _ ⟨hw.1.trans hl, hl.far.block _ (Array.getElem?_eq_some_iff.1 hw.2.1).1 (by simp; omega) |>.trans hw.2.1, hl.far.block _ (Array.getElem?_eq_some_iff.1 hw.2.2.1).1 (by simp; omega) |>.trans hw.2.2.1, hl.far.block _ (Array.getElem?_eq_some_iff.1 hw.2.2.2).1 (by simp; omega) |>.trans hw.2.2.2⟩ hl.far (⟨iv, rfl, iv0⟩)
    refine Inv.Steps.go (by decide) (by rfl) (fun σ wx hw hd K hK => ?_) ?_
    · simp only [List.getElem_toArray, List.getElem_cons_zero, List.getElem_cons_succ, Act.put, List.setIfInBounds_toArray, List.set_cons_zero, List.set_cons_succ] at hK ⊢
      go_simp
      exact hK.out _ _ hw (World.grownBy.refl _ _) (rfl)
    refine Inv.Steps.go (by decide) (by rfl) (fun σ wx hw hd K hK => ?_) ?_
    · obtain e33 : (σ 33) = .pointer (some ⟨g, 0, none⟩) := hd 12 (some 33) (by kernel_rfl) (by rfl)
      simp only [List.getElem_toArray, List.getElem_cons_zero, List.getElem_cons_succ, Act.put, List.setIfInBounds_toArray, List.set_cons_zero, List.set_cons_succ, e33] at hK ⊢
      go_simp
      go_at_call 19
      refine (next_any 2 hw.1.di (by omega) (by omega)).mono ?_
      rintro e w1 ⟨⟨iv, rfl, iv0, iv1⟩, hl⟩
      dsimp only
      exact hK.out _ _ ⟨hw.1.trans hl, hl.far.block _ (Array.getElem?_eq_some_iff.1 hw.2.1).1 (by simp; omega) |>.trans hw.2.1, hl.far.block _ (Array.getElem?_eq_some_iff.1 hw.2.2.1).1 (by simp; omega) |>.trans hw.2.2.1, hl.far.block _ (Array.getElem?_eq_some_iff.1 hw.2.2.2).1 (by simp; omega) |>.trans hw.2.2.2⟩ hl.far (⟨iv, rfl, iv0, iv1⟩)
    refine Inv.Steps.go (by decide) (by rfl) (fun σ wx hw hd K hK => ?_) ?_
    · simp only [List.getElem_toArray, List.getElem_cons_zero, List.getElem_cons_succ, Act.put, List.setIfInBounds_toArray, List.set_cons_zero, List.set_cons_succ] at hK ⊢
      go_simp
      exact hK.out _ _ hw (World.grownBy.refl _ _) (rfl)
    refine Inv.Steps.go (by decide) (by rfl) (fun σ wx hw hd K hK => ?_) ?_
    · obtain e35 : (σ 35) = .pointer (some ⟨g, 0, none⟩) := hd 14 (some 35) (by kernel_rfl) (by rfl)
      simp only [List.getElem_toArray, List.getElem_cons_zero, List.getElem_cons_succ, Act.put, List.setIfInBounds_toArray, List.set_cons_zero, List.set_cons_succ, e35] at hK ⊢
      go_simp
      go_at_call 19
      refine (next_any 6 hw.1.di (by omega) (by omega)).mono ?_
      rintro e w1 ⟨⟨iv, rfl, iv0, iv1⟩, hl⟩
      dsimp only
      exact hK.out _ _ ⟨hw.1.trans hl, hl.far.block _ (Array.getElem?_eq_some_iff.1 hw.2.1).1 (by simp; omega) |>.trans hw.2.1, hl.far.block _ (Array.getElem?_eq_some_iff.1 hw.2.2.1).1 (by simp; omega) |>.trans hw.2.2.1, hl.far.block _ (Array.getElem?_eq_some_iff.1 hw.2.2.2).1 (by simp; omega) |>.trans hw.2.2.2⟩ hl.far (⟨iv, rfl, iv0, iv1⟩)
    refine Inv.Steps.go (by decide) (by rfl) (fun σ wx hw hd K hK => ?_) ?_
    · obtain e21 : (σ 21) = .agg #[.string S0, .string S1, .string S2, .string S3] := hd 0 (some 21) (by kernel_rfl) (by rfl)
      obtain ⟨i25, e25, x25, y25⟩ : ∃ i_ : Int, (σ 25) = .int .i64 i_ ∧ 1000000000000 ≤ i_ ∧ i_ ≤ 1000010000000 := hd 4 (some 25) (by kernel_rfl) (by rfl)
      obtain ⟨i28, e28, x28⟩ : ∃ i_ : Int, (σ 28) = .int .i64 i_ ∧ i_ ∈ [(0 : Int), 0, 3] := hd 7 (some 28) (by kernel_rfl) (by rfl)
      obtain e29 : (σ 29) = .agg #[.int .i64 num, .int .i64 den] := hd 8 (some 29) (by kernel_rfl) (by rfl)
      obtain ⟨i32, e32, x32⟩ : ∃ i_ : Int, (σ 32) = .int .i64 i_ ∧ i_ ∈ [(0 : Int), 0, 10, 500] := hd 11 (some 32) (by kernel_rfl) (by rfl)
      obtain ⟨i34, e34, x34, y34⟩ : ∃ i_ : Int, (σ 34) = .int .i64 i_ ∧ 0 ≤ i_ ∧ i_ < 2 := hd 13 (some 34) (by kernel_rfl) (by rfl)
      obtain ⟨i36, e36, x36, y36⟩ : ∃ i_ : Int, (σ 36) = .int .i64 i_ ∧ 0 ≤ i_ ∧ i_ < 6 := hd 15 (some 36) (by kernel_rfl) (by rfl)
      simp only [List.getElem_toArray, List.getElem_cons_zero, List.getElem_cons_succ, Act.put, List.setIfInBounds_toArray, List.set_cons_zero, List.set_cons_succ, e21, e25, e28, e29, e32, e34, e36] at hK ⊢
      go_simp
      exact hK.out _ _ hw (World.grownBy.refl _ _) (⟨i25, i28, i32, i34, i36, rfl, x25, y25, x28, x32, x34, y34, x36, y36⟩)
    refine Inv.Steps.go (by decide) (by rfl) (fun σ wx hw hd K hK => ?_) ?_
    · simp only [List.getElem_toArray, List.getElem_cons_zero, List.getElem_cons_succ, Act.put, List.setIfInBounds_toArray, List.set_cons_zero, List.set_cons_succ] at hK ⊢
      have hlt := hw.1.di.lt
      have hsz := hw.1.far.size
      have h6 := (Array.getElem?_eq_some_iff.1 hw.2.2.1).1
      go_simp
      exact hK.out _ _ ⟨hw.1.below (new_block _), hb (new_block _) hw.2.1, hb (new_block _) hw.2.2.1, hb (new_block _) hw.2.2.2⟩ (grown_of_below (new_block _)) (⟨wx.heap.size, rfl, heap_alloc_new _ _, by omega, by omega⟩)
    exact Inv.Steps.nil
  · intro σ wx hw hd
    obtain ⟨st, fi, er, ru, se, e37, HN⟩ : ∃ st fi er ru se : Int, (σ 37) = .agg #[.string S0, .string S1, .string S2, .string S3, .int .i64 st, .int .i64 fi, .int .i64 num, .int .i64 den, .int .i64 er, .int .i64 ru, .int .i64 se, .slice none 0 0] ∧ RecN st fi er ru se := hd 16 (some 37) (by rfl) (by rfl)
    obtain ⟨p9, e9, c9, g9, m9⟩ : ∃ b_ : Nat, (σ 9) = .pointer (some ⟨b_, 0, none⟩) ∧ wx.heap[b_]? = some (.cells #[.string ⟨#[]⟩, .string ⟨#[]⟩, .string ⟨#[]⟩, .string ⟨#[]⟩, .int .i64 0, .int .i64 0, .int .i64 0, .int .i64 0, .int .i64 0, .int .i64 0, .int .i64 0, .slice none 0 0] 32 (0, 0)) ∧ b_ ≠ g ∧ w.heap.size + 1 < b_ := hd 17 (some 9) (by rfl) (by rfl)
    simp only [e37, e9]
    obtain ⟨x0, x1, x2, x3, x4, x5, x6, x7, x8, x9, x10, x11⟩ := c12 c9
    obtain ⟨y0, y1, y2, y3, y4, y5, y6, y7, y8, y9, y10, y11⟩ := f12 c9
    refine Inv.one (i := 18) (by decide) (by kernel_rfl) (by rfl) (fun K hK => ?_)
    simp only [List.getElem_toArray, List.getElem_cons_zero, List.getElem_cons_succ, Act.put, List.setIfInBounds_toArray, List.set_cons_zero, List.set_cons_succ, e37, e9] at hK ⊢
    go_simp
    refine hK.out _ _ (Inv.done (by kernel_rfl) (NoPanic.normal ?_))
    clear hK K hd x0 x1 x2 x3 x4 x5 x6 x7 x8 x9 x10 x11 y0 y1 y2 y3 y4 y5 y6 y7 y8 y9 y10 y11
    have X9 := Lib.hid (st12 c9 (.string S0) (.string S1) (.string S2) (.string S3) (.int .i64 st) (.int .i64 fi) (.int .i64 num) (.int .i64 den) (.int .i64 er) (.int .i64 ru) (.int .i64 se) (.slice none 0 0))
    have XL := Lib.hid (Dice.Left.past H.out hw.1 (bel12 (w := wx) (B := w.heap.size) (g := p9) (by omega) (.string S0) (.string S1) (.string S2) (.string S3) (.int .i64 st) (.int .i64 fi) (.int .i64 num) (.int .i64 den) (.int .i64 er) (.int .i64 ru) (.int .i64 se) (.slice none 0 0)))
    have X6 := Lib.hid ((heap12 (g := p9) wx (by have := (Array.getElem?_eq_some_iff.1 K6.out).1; omega) (.string S0) (.string S1) (.string S2) (.string S3) (.int .i64 st) (.int .i64 fi) (.int .i64 num) (.int .i64 den) (.int .i64 er) (.int .i64 ru) (.int .i64 se) (.slice none 0 0)).trans hw.2.2.1)
    obtain ⟨w9, hw9⟩ : ∃ w9, w9 = ((((((((((((wx.setCell ⟨p9, 0, none⟩ (.string S0)).setCell ⟨p9, 1, none⟩ (.string S1)).setCell ⟨p9, 2, none⟩ (.string S2)).setCell ⟨p9, 3, none⟩ (.string S3)).setCell ⟨p9, 4, none⟩ (.int .i64 st)).setCell ⟨p9, 5, none⟩ (.int .i64 fi)).setCell ⟨p9, 6, none⟩ (.int .i64 num)).setCell ⟨p9, 7, none⟩ (.int .i64 den)).setCell ⟨p9, 8, none⟩ (.int .i64 er)).setCell ⟨p9, 9, none⟩ (.int .i64 ru)).setCell ⟨p9, 10, none⟩ (.int .i64 se)).setCell ⟨p9, 11, none⟩ (.slice none 0 0)) := ⟨_, rfl⟩
    rw [← hw9] at X9 XL X6 ⊢
    clear hw9 e9 c9 hw
    have M0 : Hid (RM W w g a len cap zs (w.heap.size + 1) p9 (fun v => #[.string S0, .string S1, .string S2, .string S3, .int .i64 st, .int .i64 fi, .int .i64 num, .int .i64 den, .int .i64 er, .int .i64 ru, .int .i64 se, v]) w9 (.slice none 0 0) (.slice none 0 0) 0 (([] : List Int).map fun z => Value.int .i64 z)) := Lib.hid ⟨XL.out, World.ownsRow_nil _ _ _ _, X6.out, X9.out, hg, by omega, by omega⟩
    clear X9 XL X6 L0 K4 K6 K7 hw0
    go_wp2_with fail
    refine (next_any (n : Int) M0.out.left.di (by omega) (by omega)).mono ?_
    rintro e w10 ⟨⟨v0, rfl, v00, v01⟩, hl⟩
    replace M0 := Lib.hid (M0.out.trans hl)
    obtain ⟨m0, rfl⟩ := Int.eq_ofNat_of_zero_le v00
    clear hl
    go_wp2_with fail
    go_loopw [10] (fun i wr => ∃ (m nl : Nat) (ad : Option Addr) (kk cc : Nat) (xs : List Int), i = .int .i64 (m : Int) ∧ nl + m ≤ n ∧ 1 ≤ nl + m ∧ Hid (kk = nl) ∧ Hid (xs.length = nl) ∧ Hid (∀ x ∈ xs, 0 ≤ x ∧ x < 4) ∧ Hid (RM W w g a len cap zs (w.heap.size + 1) p9 (fun v => #[.string S0, .string S1, .string S2, .string S3, .int .i64 st, .int .i64 fi, .int .i64 num, .int .i64 den, .int .i64 er, .int .i64 ru, .int .i64 se, v]) wr (.slice ad kk cc) (.slice ad kk cc) kk (xs.map fun z => Value.int .i64 z))) (fun i _ => (intOf i).toNat)
    case atStart => exact ⟨m0 + 1, 0, none, 0, 0, [], congrArg (Value.int .i64) (by push_cast; omega), by omega, by omega, Lib.hid rfl, Lib.hid rfl, Lib.hid (fun x hx => by simp at hx), M0⟩
    case round =>
      clear M0 v00 v01
      obtain ⟨m, nl, ad, kk, cc, xs, rfl, hm, hm1, hkk, hxl, HX, M⟩ := hrel
      by_cases hm0 : 0 < m
      · obtain ⟨m', rfl⟩ : ∃ m', m = m' + 1 := ⟨m - 1, by omega⟩
        have hm0' : (0 : Int) < ((m' + 1 : Nat) : Int) := by omega
        have hkk9 : kk ≤ 20 := by rw [hkk.out]; omega
        go_wp2_with fail
        have hw0 : RM W w g a len cap zs (w.heap.size + 1) p9 (fun v => #[.string S0, .string S1, .string S2, .string S3, .int .i64 st, .int .i64 fi, .int .i64 num, .int .i64 den, .int .i64 er, .int .i64 ru, .int .i64 se, v]) wr.drew (.slice ad kk cc) (.slice ad kk cc) kk (xs.map fun z => Value.int .i64 z) := M.out.below ((Below.refl _ _).drew)
        refine wp_region_noPanic ?_
        refine wp_region_any (by kernel_rfl) ?_
        refine Inv.wpAny_inv (fun k => k == 5 || k == 6 || k == 7) [46, 47, 48, 49, 50] (fun w' => RM W w g a len cap zs (w.heap.size + 1) p9 (fun v => #[.string S0, .string S1, .string S2, .string S3, .int .i64 st, .int .i64 fi, .int .i64 num, .int .i64 den, .int .i64 er, .int .i64 ru, .int .i64 se, v]) w' (.slice ad kk cc) (.slice ad kk cc) kk (xs.map fun z => Value.int .i64 z)) (fun _ w1 w2 => w1.grownBy w2 (some g)) (fun k => ([fun v_ w_ => v_ = .pointer (some ⟨p9, 11, none⟩), fun v_ w_ => v_ = .slice ad kk cc, fun v_ w_ => v_ = .pointer (some ⟨g, 0, none⟩), fun v_ w_ => ∃ i_ : Int, v_ = .int .i64 i_ ∧ 0 ≤ i_ ∧ i_ < 4, fun v_ w_ => ∃ (b_ : Nat) (i_ : Int), v_ = .slice (some ⟨b_, 0, none⟩) 1 1 ∧ w_.heap[b_]? = some (.cells #[.int .i64 i_] 3 (0, 0)) ∧ b_ ≠ g ∧ 0 ≤ i_ ∧ i_ < 4, fun v_ w_ => True, fun v_ w_ => True, fun v_ w_ => True] : List (Value → World → Prop)).getD k (fun _ _ => True)) _ (fun σ => by simp only [Inv.putAll, List.foldl_cons, List.foldl_nil, Act.put, List.setIfInBounds_toArray, List.set_cons_zero, List.set_cons_succ]; rfl) (by kernel_rfl) (by kernel_rfl) ?_ hw0 ?_ ?_ 3 #[true, true, true, true, true, false, false, false] (by kernel_rfl) (by kernel_rfl) ?_
        · intro j k v w1 w2 hjk hv hr
          rcases k with _ | k
          · exact hv
          rcases k with _ | k
          · exact hv
          rcases k with _ | k
          · exact hv
          rcases k with _ | k
          · exact hv
          rcases k with _ | k
          · exact (by obtain ⟨b, i, h1, h2, h3, h4⟩ := hv; exact ⟨b, i, h1, (hr.block b (Array.getElem?_eq_some_iff.1 h2).1 (by simpa using h3)).trans h2, h3, h4⟩)
          rcases k with _ | k
          · exact hv
          rcases k with _ | k
          · exact hv
          rcases k with _ | k
          · exact hv
          · exact hv
        · intro k t hl hd
          rcases k with _ | k
          · exact absurd hl (by decide +kernel)
          rcases k with _ | k
          · exact absurd hl (by decide +kernel)
          rcases k with _ | k
          · exact absurd hl (by decide +kernel)
          rcases k with _ | k
          · exact absurd hl (by decide +kernel)
          rcases k with _ | k
          · exact absurd hl (by decide +kernel)
          rcases k with _ | k
          · exact absurd hl (by decide +kernel)
          rcases k with _ | k
          · exact absurd hl (by decide +kernel)
          rcases k with _ | k
          · exact absurd hl (by decide +kernel)
          · simp at hd
        · show Inv.Steps _ _ _ _ _ _ _ _ [0, 1, 2, 3, 4]
          refine Inv.Steps.go (by decide) (by rfl) (fun σ wx hw hd K hK => ?_) ?_
          · simp only [List.getElem_toArray, List.getElem_cons_zero, List.getElem_cons_succ, Act.put, List.setIfInBounds_toArray, List.set_cons_zero, List.set_cons_succ] at hK ⊢
            go_simp
            exact hK.out _ _ hw (World.grownBy.refl _ _) (rfl)
          refine Inv.Steps.go (by decide) (by rfl) (fun σ wx hw hd K hK => ?_) ?_
          · obtain e46 : (σ 46) = .pointer (some ⟨p9, 11, none⟩) := hd 0 (some 46) (by kernel_rfl) (by rfl)
            simp only [List.getElem_toArray, List.getElem_cons_zero, List.getElem_cons_succ, Act.put, List.setIfInBounds_toArray, List.set_cons_zero, List.set_cons_succ, e46] at hK ⊢
            obtain ⟨f0, f1, f2, f3, f4, f5, f6, f7, f8, f9, f10, f11⟩ := c12 hw.k9
            go_simp
            exact hK.out _ _ hw (World.grownBy.refl _ _) (rfl)
          refine Inv.Steps.go (by decide) (by rfl) (fun σ wx hw hd K hK => ?_) ?_
          · simp only [List.getElem_toArray, List.getElem_cons_zero, List.getElem_cons_succ, Act.put, List.setIfInBounds_toArray, List.set_cons_zero, List.set_cons_succ] at hK ⊢
            go_simp
            exact hK.out _ _ hw (World.grownBy.refl _ _) (rfl)
          refine Inv.Steps.go (by decide) (by rfl) (fun σ wx hw hd K hK => ?_) ?_
          · obtain e48 : (σ 48) = .pointer (some ⟨g, 0, none⟩) := hd 2 (some 48) (by kernel_rfl) (by rfl)
            simp only [List.getElem_toArray, List.getElem_cons_zero, List.getElem_cons_succ, Act.put, List.setIfInBounds_toArray, List.set_cons_zero, List.set_cons_succ, e48] at hK ⊢
            go_simp
            go_at_call 19
            refine (next_any 4 hw.left.di (by omega) (by omega)).mono ?_
            rintro e w1 ⟨⟨iv, rfl, iv0, iv1⟩, hl⟩
            dsimp only
            exact hK.out _ _ (hw.trans hl) hl.far (⟨iv, rfl, iv0, iv1⟩)
          refine Inv.Steps.go (by decide) (by rfl) (fun σ wx hw hd K hK => ?_) ?_
          · obtain ⟨i49, e49, x49, y49⟩ : ∃ i_ : Int, (σ 49) = .int .i64 i_ ∧ 0 ≤ i_ ∧ i_ < 4 := hd 3 (some 49) (by kernel_rfl) (by rfl)
            simp only [List.getElem_toArray, List.getElem_cons_zero, List.getElem_cons_succ, Act.put, List.setIfInBounds_toArray, List.set_cons_zero, List.set_cons_succ, e49] at hK ⊢
            have hlt := hw.left.di.lt
            go_simp
            exact hK.out _ _ (hw.below (new_block _)) (grown_of_below (new_block _)) (⟨wx.heap.size, i49, rfl, heap_alloc_new _ _, by omega, x49, y49⟩)
          exact Inv.Steps.nil
        · intro σ wx hw hd
          obtain e47 : (σ 47) = .slice ad kk cc := hd 1 (some 47) (by rfl) (by rfl)
          obtain ⟨b50, i50, e50, c50, n50, x50, y50⟩ : ∃ (b_ : Nat) (i_ : Int), (σ 50) = .slice (some ⟨b_, 0, none⟩) 1 1 ∧ wx.heap[b_]? = some (.cells #[.int .i64 i_] 3 (0, 0)) ∧ b_ ≠ g ∧ 0 ≤ i_ ∧ i_ < 4 := hd 4 (some 50) (by rfl) (by rfl)
          simp only [e47, e50]
          have hsz : p9 + 1 ≤ wx.heap.size := (Array.getElem?_eq_some_iff.1 hw.k9).1
          refine Inv.one (i := 5) (by decide) (by kernel_rfl) (by rfl) (fun K hK => ?_)
          simp only [List.getElem_toArray, List.getElem_cons_zero, List.getElem_cons_succ, Act.put, List.setIfInBounds_toArray, List.set_cons_zero, List.set_cons_succ, e47, e50] at hK ⊢
          refine wp_append_own wx (.tmp 47) (.tmp 50) 22 rfl (p9 + 1) 3 i0 (.int .i64 0) 1 8 Try.underlying22 hi hz0 hz1 hz2 (by rfl) (by decide) (.slice ad kk cc) kk (xs.map fun z => Value.int .i64 z) rfl hw.own ⟨b50, 0, none⟩ 1 1 [.int .i64 i50] rfl rfl (World.news_of_block c50) (by simp [Value.oneCell']) (by unfold maxLen; omega) (by omega) hsz (fun v2 w13 ho hg2 _ => ?_)
          refine hK.out _ _ ?_
          clear hK K hd
          obtain ⟨ra, rm, rc, rfl, hrm⟩ := own_letter ho
          have M13 := Lib.hid (hw.grow hg2 (vo' := .slice ra rm rc) (no' := rm) (by have e1 := hrm.out; subst e1; exact ho) H.out)
          clear ho hg2 hw c50 e50 e47
          obtain ⟨f0, f1, f2, f3, f4, f5, f6, f7, f8, f9, f10, f11⟩ := c12 M13.out.k9
          obtain ⟨u0, u1, u2, u3, u4, u5, u6, u7, u8, u9, u10, u11⟩ := f12 M13.out.k9
          refine Inv.take (i := 6) (v := .pointer (some ⟨p9, 11, none⟩)) (by decide) rfl (by kernel_rfl) (by kernel_rfl) (by kernel_rfl) (fun _ _ _ h => h) (by rfl) (fun w' => ?_) ?_
          · simp only [List.getElem_toArray, List.getElem_cons_zero, List.getElem_cons_succ]
            go_simp
          try simp only [Act.put, List.setIfInBounds_toArray, List.set_cons_zero, List.set_cons_succ]
          refine Inv.one (i := 7) (by decide) (by kernel_rfl) (by rfl) (fun K hK => ?_)
          simp only [List.getElem_toArray, List.getElem_cons_zero, List.getElem_cons_succ, Act.put, List.setIfInBounds_toArray, List.set_cons_zero, List.set_cons_succ] at hK ⊢
          go_simp
          refine hK.out _ _ (Inv.done (by kernel_rfl) (NoPanic.normal ?_))
          clear hK K f0 f1 f2 f3 f4 f5 f6 f7 f8 f9 f10 f11 u0 u1 u2 u3 u4 u5 u6 u7 u8 u9 u10 u11
          have M14 := Lib.hid (by have h7 := M13.out.store9 H.out ⟨_, _, _, _, _, _, _, _, _, _, _, fun _ => rfl⟩ (.slice ra rm rc); rw [show (xs.map fun z => Value.int .i64 z) ++ [Value.int .i64 i50] = (xs ++ [i50]).map fun z => Value.int .i64 z by simp] at h7; exact h7)
          have hrm2 : Hid (rm = nl + 1) := Lib.hid (by rw [hrm.out, hkk.out])
          clear M13 hrm
          go_wp2_with fail
          go_roundw
          case rel => exact ⟨m', nl + 1, ra, rm, rc, xs ++ [i50], by go_num, by omega, by omega, hrm2, Lib.hid (by simp [hxl.out]), Lib.hid (by intro x hx; rcases List.mem_append.1 hx with hx | hx; exact (HX.out x hx); (simp at hx; omega)), M14⟩
          case measure => simp [intOf]
      · obtain rfl : m = 0 := by omega
        obtain ⟨f0, f1, f2, f3, f4, f5, f6, f7, f8, f9, f10, f11⟩ := c12 M.out.k9
        obtain ⟨z0, z1, z2, z3, z4, z5, z6, z7, z8, z9, z10, z11⟩ := c12 M.out.k6
        obtain ⟨u0, u1, u2, u3, u4, u5, u6, u7, u8, u9, u10, u11⟩ := f12 M.out.k6
        have X0 := Lib.hid (st12 M.out.k6 (.string S0) (.string S1) (.string S2) (.string S3) (.int .i64 st) (.int .i64 fi) (.int .i64 num) (.int .i64 den) (.int .i64 er) (.int .i64 ru) (.int .i64 se) (.slice ad kk cc))
        have XL := Lib.hid (Dice.Left.past H.out M.out.left (bel12 (w := wr) (B := w.heap.size) (g := w.heap.size + 1) (by omega) (.string S0) (.string S1) (.string S2) (.string S3) (.int .i64 st) (.int .i64 fi) (.int .i64 num) (.int .i64 den) (.int .i64 er) (.int .i64 ru) (.int .i64 se) (.slice ad kk cc)))
        have XO := Lib.hid (own_kept (w' := ((((((((((((wr.setCell ⟨w.heap.size + 1, 0, none⟩ (.string S0)).setCell ⟨w.heap.size + 1, 1, none⟩ (.string S1)).setCell ⟨w.heap.size + 1, 2, none⟩ (.string S2)).setCell ⟨w.heap.size + 1, 3, none⟩ (.string S3)).setCell ⟨w.heap.size + 1, 4, none⟩ (.int .i64 st)).setCell ⟨w.heap.size + 1, 5, none⟩ (.int .i64 fi)).setCell ⟨w.heap.size + 1, 6, none⟩ (.int .i64 num)).setCell ⟨w.heap.size + 1, 7, none⟩ (.int .i64 den)).setCell ⟨w.heap.size + 1, 8, none⟩ (.int .i64 er)).setCell ⟨w.heap.size + 1, 9, none⟩ (.int .i64 ru)).setCell ⟨w.heap.size + 1, 10, none⟩ (.int .i64 se)).setCell ⟨w.heap.size + 1, 11, none⟩ (.slice ad kk cc))) M.out.own fun k hk => heap12 (g := w.heap.size + 1) wr (by have := (M.out.own.lt k hk).1; have := M.out.o9; omega) (.string S0) (.string S1) (.string S2) (.string S3) (.int .i64 st) (.int .i64 fi) (.int .i64 num) (.int .i64 den) (.int .i64 er) (.int .i64 ru) (.int .i64 se) (.slice ad kk cc))
        have o9 := M.out.o9
        go_wp2_with fail
        refine bodyPost_ret (results_cell_row rfl _ _ (w.heap.size + 1) _ _ _ _ rfl X0.out rfl (by rfl) rfl) rfl ⟨⟨st, fi, num, den, er, ru, se, ad, kk, cc, xs, rfl, HN, ⟨va, vb, gg, hdv, ha, hb', hnum.out, hden.out⟩, own_mono XO.out (by omega), ?_, ?_, ?_, HX.out⟩, XL.out⟩
        · rw [hkk.out, hxl.out]
        · rw [hkk.out]; omega
        · rw [hkk.out]; omega
end Rec
end Go.Proofs.Yticdjlpabknaiaa
