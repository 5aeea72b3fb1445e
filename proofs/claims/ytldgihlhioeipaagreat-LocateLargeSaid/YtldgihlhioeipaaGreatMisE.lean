/- Stores of a whole problem; the flat problems of the example, and the example. -/
import Derived.Test.YtldgihlhioeipaaGreatMisD
import Derived.Test.YtldgihlhioeipaaGreatBoundA
set_option linter.unusedVariables false
set_option linter.unusedSimpArgs false
namespace Go.Proofs.YtldgihlhioeipaaGreat
open Go.RowKit
namespace Mis
theorem st11 {w : World} {g : Nat} {a b c d e f s l h p q : Value} {t : TypeId} (hh : w.heap[g]? = some (.cells #[a, b, c, d, e, f, s, l, h, p, q] t (0, 0))) (a1 b1 c1 d1 e1 f1 s1 l1 h1 p1 q1 : Value) :
    (((((((((((w.setCell ⟨g, 0, none⟩ a1).setCell ⟨g, 1, none⟩ b1).setCell ⟨g, 2, none⟩ c1).setCell ⟨g, 3, none⟩ d1).setCell ⟨g, 4, none⟩ e1).setCell ⟨g, 5, none⟩ f1).setCell ⟨g, 6, none⟩ s1).setCell ⟨g, 7, none⟩ l1).setCell ⟨g, 8, none⟩ h1).setCell ⟨g, 9, none⟩ p1).setCell ⟨g, 10, none⟩ q1).heap[g]? = some (.cells #[a1, b1, c1, d1, e1, f1, s1, l1, h1, p1, q1] t (0, 0)) := by
  have k0 := (heap_setCell_same w g 0 _ _ a1 hh).trans (show _ = some (.cells #[a1, b, c, d, e, f, s, l, h, p, q] t (0, 0)) from rfl)
  have k1 := (heap_setCell_same (w.setCell ⟨g, 0, none⟩ a1) g 1 _ _ b1 k0).trans (show _ = some (.cells #[a1, b1, c, d, e, f, s, l, h, p, q] t (0, 0)) from rfl)
  have k2 := (heap_setCell_same ((w.setCell ⟨g, 0, none⟩ a1).setCell ⟨g, 1, none⟩ b1) g 2 _ _ c1 k1).trans (show _ = some (.cells #[a1, b1, c1, d, e, f, s, l, h, p, q] t (0, 0)) from rfl)
  have k3 := (heap_setCell_same (((w.setCell ⟨g, 0, none⟩ a1).setCell ⟨g, 1, none⟩ b1).setCell ⟨g, 2, none⟩ c1) g 3 _ _ d1 k2).trans (show _ = some (.cells #[a1, b1, c1, d1, e, f, s, l, h, p, q] t (0, 0)) from rfl)
  have k4 := (heap_setCell_same ((((w.setCell ⟨g, 0, none⟩ a1).setCell ⟨g, 1, none⟩ b1).setCell ⟨g, 2, none⟩ c1).setCell ⟨g, 3, none⟩ d1) g 4 _ _ e1 k3).trans (show _ = some (.cells #[a1, b1, c1, d1, e1, f, s, l, h, p, q] t (0, 0)) from rfl)
  have k5 := (heap_setCell_same (((((w.setCell ⟨g, 0, none⟩ a1).setCell ⟨g, 1, none⟩ b1).setCell ⟨g, 2, none⟩ c1).setCell ⟨g, 3, none⟩ d1).setCell ⟨g, 4, none⟩ e1) g 5 _ _ f1 k4).trans (show _ = some (.cells #[a1, b1, c1, d1, e1, f1, s, l, h, p, q] t (0, 0)) from rfl)
  have k6 := (heap_setCell_same ((((((w.setCell ⟨g, 0, none⟩ a1).setCell ⟨g, 1, none⟩ b1).setCell ⟨g, 2, none⟩ c1).setCell ⟨g, 3, none⟩ d1).setCell ⟨g, 4, none⟩ e1).setCell ⟨g, 5, none⟩ f1) g 6 _ _ s1 k5).trans (show _ = some (.cells #[a1, b1, c1, d1, e1, f1, s1, l, h, p, q] t (0, 0)) from rfl)
  have k7 := (heap_setCell_same (((((((w.setCell ⟨g, 0, none⟩ a1).setCell ⟨g, 1, none⟩ b1).setCell ⟨g, 2, none⟩ c1).setCell ⟨g, 3, none⟩ d1).setCell ⟨g, 4, none⟩ e1).setCell ⟨g, 5, none⟩ f1).setCell ⟨g, 6, none⟩ s1) g 7 _ _ l1 k6).trans (show _ = some (.cells #[a1, b1, c1, d1, e1, f1, s1, l1, h, p, q] t (0, 0)) from rfl)
  have k8 := (heap_setCell_same ((((((((w.setCell ⟨g, 0, none⟩ a1).setCell ⟨g, 1, none⟩ b1).setCell ⟨g, 2, none⟩ c1).setCell ⟨g, 3, none⟩ d1).setCell ⟨g, 4, none⟩ e1).setCell ⟨g, 5, none⟩ f1).setCell ⟨g, 6, none⟩ s1).setCell ⟨g, 7, none⟩ l1) g 8 _ _ h1 k7).trans (show _ = some (.cells #[a1, b1, c1, d1, e1, f1, s1, l1, h1, p, q] t (0, 0)) from rfl)
  have k9 := (heap_setCell_same (((((((((w.setCell ⟨g, 0, none⟩ a1).setCell ⟨g, 1, none⟩ b1).setCell ⟨g, 2, none⟩ c1).setCell ⟨g, 3, none⟩ d1).setCell ⟨g, 4, none⟩ e1).setCell ⟨g, 5, none⟩ f1).setCell ⟨g, 6, none⟩ s1).setCell ⟨g, 7, none⟩ l1).setCell ⟨g, 8, none⟩ h1) g 9 _ _ p1 k8).trans (show _ = some (.cells #[a1, b1, c1, d1, e1, f1, s1, l1, h1, p1, q] t (0, 0)) from rfl)
  have k10 := (heap_setCell_same ((((((((((w.setCell ⟨g, 0, none⟩ a1).setCell ⟨g, 1, none⟩ b1).setCell ⟨g, 2, none⟩ c1).setCell ⟨g, 3, none⟩ d1).setCell ⟨g, 4, none⟩ e1).setCell ⟨g, 5, none⟩ f1).setCell ⟨g, 6, none⟩ s1).setCell ⟨g, 7, none⟩ l1).setCell ⟨g, 8, none⟩ h1).setCell ⟨g, 9, none⟩ p1) g 10 _ _ q1 k9).trans (show _ = some (.cells #[a1, b1, c1, d1, e1, f1, s1, l1, h1, p1, q1] t (0, 0)) from rfl)
  exact k10
theorem st_far {w : World} {g b o : Nat} {x : Obj} (h : w.heap[b]? = some x) (hne : b ≠ g) (v : Value) : (w.setCell ⟨g, o, none⟩ v).heap[b]? = some x := (Below.heap_setCell w ⟨g, o, none⟩ v b hne).trans h
theorem far11 {w : World} {g b : Nat} {x : Obj} (h : w.heap[b]? = some x) (hne : b ≠ g) (a1 b1 c1 d1 e1 f1 s1 l1 h1 p1 q1 : Value) : (((((((((((w.setCell ⟨g, 0, none⟩ a1).setCell ⟨g, 1, none⟩ b1).setCell ⟨g, 2, none⟩ c1).setCell ⟨g, 3, none⟩ d1).setCell ⟨g, 4, none⟩ e1).setCell ⟨g, 5, none⟩ f1).setCell ⟨g, 6, none⟩ s1).setCell ⟨g, 7, none⟩ l1).setCell ⟨g, 8, none⟩ h1).setCell ⟨g, 9, none⟩ p1).setCell ⟨g, 10, none⟩ q1).heap[b]? = some x := (st_far (st_far (st_far (st_far (st_far (st_far (st_far (st_far (st_far (st_far (st_far h hne a1) hne b1) hne c1) hne d1) hne e1) hne f1) hne s1) hne l1) hne h1) hne p1) hne q1)
theorem own_far {w : World} {B sz g o : Nat} {e : TypeId} {v : Value} {n : Nat} {xs : List Value} (h : w.ownsRow B e sz v n xs) (hg : g < B) (u : Value) : (w.setCell ⟨g, o, none⟩ u).ownsRow B e sz v n xs :=
  own_kept h fun k hk => Below.heap_setCell w ⟨g, o, none⟩ u k (by have := (h.lt k hk).1; show k ≠ g; omega)
theorem own_far11 {w : World} {B sz g : Nat} {e : TypeId} {v : Value} {n : Nat} {xs : List Value} (h : w.ownsRow B e sz v n xs) (hg : g < B) (a1 b1 c1 d1 e1 f1 s1 l1 h1 p1 q1 : Value) : (((((((((((w.setCell ⟨g, 0, none⟩ a1).setCell ⟨g, 1, none⟩ b1).setCell ⟨g, 2, none⟩ c1).setCell ⟨g, 3, none⟩ d1).setCell ⟨g, 4, none⟩ e1).setCell ⟨g, 5, none⟩ f1).setCell ⟨g, 6, none⟩ s1).setCell ⟨g, 7, none⟩ l1).setCell ⟨g, 8, none⟩ h1).setCell ⟨g, 9, none⟩ p1).setCell ⟨g, 10, none⟩ q1).ownsRow B e sz v n xs := (own_far (own_far (own_far (own_far (own_far (own_far (own_far (own_far (own_far (own_far (own_far h hg a1) hg b1) hg c1) hg d1) hg e1) hg f1) hg s1) hg l1) hg h1) hg p1) hg q1)
theorem below11 {B g : Nat} {w0 w : World} (h : Below B w0 w) (hg : B ≤ g) (a1 b1 c1 d1 e1 f1 s1 l1 h1 p1 q1 : Value) : Below B w0 (((((((((((w.setCell ⟨g, 0, none⟩ a1).setCell ⟨g, 1, none⟩ b1).setCell ⟨g, 2, none⟩ c1).setCell ⟨g, 3, none⟩ d1).setCell ⟨g, 4, none⟩ e1).setCell ⟨g, 5, none⟩ f1).setCell ⟨g, 6, none⟩ s1).setCell ⟨g, 7, none⟩ l1).setCell ⟨g, 8, none⟩ h1).setCell ⟨g, 9, none⟩ p1).setCell ⟨g, 10, none⟩ q1) := (((((((((((h.setCell (p := ⟨g, 0, none⟩) hg a1).setCell (p := ⟨g, 1, none⟩) hg b1).setCell (p := ⟨g, 2, none⟩) hg c1).setCell (p := ⟨g, 3, none⟩) hg d1).setCell (p := ⟨g, 4, none⟩) hg e1).setCell (p := ⟨g, 5, none⟩) hg f1).setCell (p := ⟨g, 6, none⟩) hg s1).setCell (p := ⟨g, 7, none⟩) hg l1).setCell (p := ⟨g, 8, none⟩) hg h1).setCell (p := ⟨g, 9, none⟩) hg p1).setCell (p := ⟨g, 10, none⟩) hg q1)
theorem f11 {w : World} {g : Nat} {a b c d e f s l h p q : Value} {t : TypeId} (hh : w.heap[g]? = some (.cells #[a, b, c, d, e, f, s, l, h, p, q] t (0, 0))) : w.frozen? ⟨g, 0, none⟩ = false ∧ w.frozen? ⟨g, 1, none⟩ = false ∧ w.frozen? ⟨g, 2, none⟩ = false ∧ w.frozen? ⟨g, 3, none⟩ = false ∧ w.frozen? ⟨g, 4, none⟩ = false ∧ w.frozen? ⟨g, 5, none⟩ = false ∧ w.frozen? ⟨g, 6, none⟩ = false ∧ w.frozen? ⟨g, 7, none⟩ = false ∧ w.frozen? ⟨g, 8, none⟩ = false ∧ w.frozen? ⟨g, 9, none⟩ = false ∧ w.frozen? ⟨g, 10, none⟩ = false := ⟨frozen_of_row w g 0 _ _ hh, frozen_of_row w g 1 _ _ hh, frozen_of_row w g 2 _ _ hh, frozen_of_row w g 3 _ _ hh, frozen_of_row w g 4 _ _ hh, frozen_of_row w g 5 _ _ hh, frozen_of_row w g 6 _ _ hh, frozen_of_row w g 7 _ _ hh, frozen_of_row w g 8 _ _ hh, frozen_of_row w g 9 _ _ hh, frozen_of_row w g 10 _ _ hh⟩
theorem cells11_set9 {w : World} {g : Nat} {a b c d e f s l h p q : Value} {t : TypeId} (hh : w.heap[g]? = some (.cells #[a, b, c, d, e, f, s, l, h, p, q] t (0, 0))) (v : Value) : (w.setCell ⟨g, 9, none⟩ v).heap[g]? = some (.cells #[a, b, c, d, e, f, s, l, h, v, q] t (0, 0)) := (heap_setCell_same w g 9 _ _ v hh).trans rfl
/-- A phase of a flat problem. -/
def pf (z : Int × Int) : Ph := ⟨0, 0, 0, z.1, z.2, 1⟩
theorem ints2 {w : World} {b : Nat} (h : w.heap[b]? = some (.cells #[.int .i64 0, .int .i64 0] 3 (0, 0))) : Src.Ints w b [0, 0] := by
  intro j hj
  obtain ⟨h0, h1⟩ := cell2 h
  simp at hj
  obtain rfl | rfl : j = 0 ∨ j = 1 := by omega
  · exact h0
  · exact h1
theorem flat_tv {w : World} {b1 b2 : Nat} (h1 : w.heap[b1]? = some (.cells #[.int .i64 0, .int .i64 0] 3 (0, 0))) (h2 : w.heap[b2]? = some (.cells #[.int .i64 0, .int .i64 0] 3 (0, 0))) : Trav.TV w 1 b1 b2 2 [0, 0] [0, 0] :=
  ⟨ints2 h1, ints2 h2, rfl, rfl, by decide, by decide, by decide, by decide, fun k hk => by rcases (show k = 0 ∨ k = 1 by omega) with rfl | rfl <;> decide,
    fun i j _ hj => by
      have : ∀ k : Nat, k < 2 → ([0, 0] : List Int).getD k 0 = 0 := fun k hk => by rcases (show k = 0 ∨ k = 1 by omega) with rfl | rfl <;> rfl
      rw [this i (by omega), this j hj]; exact ⟨Int.le_refl _, Int.le_refl _⟩, (Array.getElem?_eq_some_iff.1 h1).1, (Array.getElem?_eq_some_iff.1 h2).1⟩
/-- The table of a flat problem. -/
def FT (b1 b2 : Nat) (w : World) : Prop := Trav.TV w 1 b1 b2 2 [0, 0] [0, 0]
theorem rt0 : Root.rt 0 32 = 0 := by decide +kernel
theorem ce0 : Root.ce 0 = 0 := by decide +kernel
theorem pv0 : Geo.PV 0 0 0 := ⟨by decide, by decide, by decide, by decide, by decide, by decide⟩
theorem bv0 : Geo.BV 0 0 0 0 0 0 := ⟨pv0, pv0, by decide, by decide, by decide⟩
theorem near0 : Geo.near3 0 0 0 0 0 0 0 0 0 = 0 := by decide
theorem far0 : Geo.far3 0 0 0 0 0 0 0 0 0 = 0 := by decide
theorem flat_pk (b1 b2 : Nat) (cap : Int) (c0 : 1 ≤ cap) (c9 : cap ≤ 2000) (Z : List (Int × Int)) (n1 : 1 ≤ Z.length) (n9 : Z.length ≤ 64) (hz : ∀ (k : Nat) (q : Int × Int), Z[k]? = some q → 0 ≤ q.1 ∧ q.1 ≤ q.2 ∧ q.2 ≤ 1000) :
    Pk (FT b1 b2) 0 0 0 0 0 0 1 b1 b2 2 2 2 cap (Z.map pf) := by
  have hq : ∀ (k : Nat) (q : Ph), (Z.map pf)[k]? = some q → ∃ z, Z[k]? = some z ∧ q = pf z := fun k q h => by
    rw [List.getElem?_map] at h
    cases hh : Z[k]? with
    | none => rw [hh] at h; cases h
    | some z => rw [hh] at h; exact ⟨z, rfl, by simpa using h.symm⟩
  refine ⟨fun w w' h hb => h.below hb, bv0, fun w h => Trav.validate_yes 1 b1 b2 2 2 2 [0, 0] [0, 0] w h, by simpa using n1, by simpa using n9, c0, c9, fun k q h => ?_, fun k q h w ht => ?_⟩
  · obtain ⟨z, h1, rfl⟩ := hq k q h
    obtain ⟨a, b, c⟩ := hz k z h1
    exact ⟨pv0, a, b, by show z.2 ≤ _; omega, (show (1 : Int) ≤ 1 by decide), (show (1 : Int) ≤ 100 by decide)⟩
  · obtain ⟨z, h1, rfl⟩ := hq k q h
    refine (Bound.interval_ok 1 b1 b2 2 2 2 [0, 0] [0, 0] 0 0 0 0 0 0 0 0 0 0 0 w ht bv0 pv0 ?_ ?_ ?_).mono fun e w' ⟨he, hb⟩ => ⟨⟨_, _, he⟩, hb⟩
    · rw [far0, ce0]; decide
    · rw [near0, rt0]; decide
    · rw [far0, ce0]; decide
theorem flat_zone (b1 b2 : Nat) (Z : List (Int × Int)) (hz : ∀ (k : Nat) (q : Int × Int), Z[k]? = some q → 0 ≤ q.1 ∧ q.1 ≤ q.2 ∧ q.2 ≤ 1000) (k : Nat) (q : Ph) (h : (Z.map pf)[k]? = some q) (w : World) (ht : FT b1 b2 w) :
    Calls Tryz.prog 75 #[.agg #[.int .i64 1, .slice (some ⟨b1, 0, none⟩) 2 2, .slice (some ⟨b2, 0, none⟩) 2 2], .agg #[.int .i64 0, .int .i64 0, .int .i64 0, .int .i64 0, .int .i64 0, .int .i64 0], .agg #[.int .i64 q.x, .int .i64 q.y, .int .i64 q.z, .int .i64 q.E, .int .i64 q.L, .int .i64 q.W]] w fun r w' => r = .returned (.tuple #[.agg #[.int .i64 (q.E, q.L).1, .int .i64 (q.E, q.L).2], .int .i64 0]) ∧ Below w.heap.size w w' := by
  rw [List.getElem?_map] at h
  cases hh : Z[k]? with
  | none => rw [hh] at h; cases h
  | some z =>
    rw [hh] at h
    obtain rfl : pf z = q := by simpa using h
    obtain ⟨a, b, c⟩ := hz k z hh
    have := Bound.zone_ok 1 b1 b2 2 2 2 [0, 0] [0, 0] 0 0 0 0 0 0 0 0 0 z.1 z.2 1 0 0 w ht bv0 ⟨pv0, a, b, by omega, by decide, by decide⟩ (by rw [far0, ce0]; decide) (by rw [near0, rt0]; decide) (by rw [far0, ce0]; decide) (by decide) (by decide) (by decide)
    simpa [pf] using this
def Za : List (Int × Int) := [(10, 20), (15, 30)]
def Zb : List (Int × Int) := [(0, 0), (0, 0), (100, 100)]
theorem za_bd : ∀ (k : Nat) (q : Int × Int), Za[k]? = some q → 0 ≤ q.1 ∧ q.1 ≤ q.2 ∧ q.2 ≤ 1000 := fun k q h => by
  rcases k with _ | _ | k <;> simp [Za] at h <;> subst h <;> decide
theorem zb_bd : ∀ (k : Nat) (q : Int × Int), Zb[k]? = some q → 0 ≤ q.1 ∧ q.1 ≤ q.2 ∧ q.2 ≤ 1000 := fun k q h => by
  rcases k with _ | _ | _ | k <;> simp [Zb] at h <;> subst h <;> decide
theorem cs_flat (cap : Int) (c0 : 1 ≤ cap) (c9 : cap ≤ 2000) (Z : List (Int × Int)) (n1 : 1 ≤ Z.length) (n9 : Z.length ≤ 64) (hz : ∀ (k : Nat) (q : Int × Int), Z[k]? = some q → 0 ≤ q.1 ∧ q.1 ≤ q.2 ∧ q.2 ≤ 1000) : Cs cap (Z.map pf) Z := by
  refine ⟨c0, c9, by simpa using n1, by simpa using n9, by simp, fun k q h => ?_, fun k q h => ?_⟩
  · rw [List.getElem?_map] at h
    cases hh : Z[k]? with
    | none => rw [hh] at h; cases h
    | some z => rw [hh] at h; obtain rfl : pf z = q := (by simpa using h); exact ⟨(show (0 : Int) ≤ 1 by decide), (show (1 : Int) ≤ 100 by decide)⟩
  · have := hz k q h; omega
theorem best_a : best 10 (wt (Za.map pf)) (zn Za) 2 = (15, 0) := by decide +kernel
theorem best_b : best 10 (wt (Zb.map pf)) (zn Zb) 3 = (0, 10) := by decide +kernel
theorem map_back (Z : List (Int × Int)) : (Z.map pf).map (fun q => (q.E, q.L)) = Z := by
  rw [List.map_map]; exact List.map_id'' (fun z => rfl) Z
theorem znR_lit2 {w : World} {b : Nat} (h : w.heap[b]? = some (.cells #[.int .i64 10, .int .i64 20, .int .i64 15, .int .i64 30] 102 (0, 0))) : ZnR w b Za :=
  ⟨(Array.getElem?_eq_some_iff.1 h).1, fun k p hp => by
    rcases k with _ | _ | k <;> simp [Za] at hp <;> subst hp
    · exact ⟨cell_of_row w b 0 _ _ _ h, cell_of_row w b 1 _ _ _ h⟩
    · exact ⟨cell_of_row w b 2 _ _ _ h, cell_of_row w b 3 _ _ _ h⟩⟩
theorem znR_lit3 {w : World} {b : Nat} (h : w.heap[b]? = some (.cells #[.int .i64 0, .int .i64 0, .int .i64 0, .int .i64 0, .int .i64 100, .int .i64 100] 102 (0, 0))) : ZnR w b Zb :=
  ⟨(Array.getElem?_eq_some_iff.1 h).1, fun k p hp => by
    rcases k with _ | _ | _ | k <;> simp [Zb] at hp <;> subst hp
    · exact ⟨cell_of_row w b 0 _ _ _ h, cell_of_row w b 1 _ _ _ h⟩
    · exact ⟨cell_of_row w b 2 _ _ _ h, cell_of_row w b 3 _ _ _ h⟩
    · exact ⟨cell_of_row w b 4 _ _ _ h, cell_of_row w b 5 _ _ _ h⟩⟩
theorem own_slice {w : World} {B : Nat} {v : Value} {l : List Ph} (h : OwnP w B v l) (h0 : 0 < l.length) : ∃ g c, v = .slice (some ⟨g, 0, none⟩) l.length c ∧ PhR w g l ∧ l.length ≤ c ∧ c ≤ maxLen := by
  rcases own_shape h with ⟨_, h1⟩ | ⟨g, c, rfl, h2, h3, h4, h5⟩
  · omega
  · exact ⟨g, c, rfl, (phR_of_own h).1, h2, h3⟩
end Mis
end Go.Proofs.YtldgihlhioeipaaGreat
