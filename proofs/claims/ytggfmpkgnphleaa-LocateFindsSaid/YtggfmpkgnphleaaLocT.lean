/- The memory while LocateFinds makes its phases. -/
import Derived.Test.YtggfmpkgnphleaaMisP
import Derived.Test.YtggfmpkgnphleaaMisR
set_option linter.unusedVariables false
set_option linter.unusedSimpArgs false
namespace Go.Proofs.Ytggfmpkgnphleaa
open Go.RowKit
namespace Mis
structure FM (W0 : World) (g : Nat) (a : Option Addr) (len cap : Nat) (zs : List Int) (p7 p8 b1 b2 n : Nat) (C7 : Value → Array Value) (C8 : Array Value) (s : Int) (lo hi : List Int) (wr : World) (v7 vo : Value) (no : Nat) (xs : List Value) : Prop where
  di : Src.Di W0 wr g a len cap zs
  own : wr.ownsRow (p8 + 1) 37 6 vo no xs
  k7 : wr.heap[p7]? = some (.cells (C7 v7) 33 (0, 0))
  k8 : wr.heap[p8]? = some (.cells C8 26 (0, 0))
  tv : Bound.Wide wr s b1 b2 n lo hi
  og : g < p7
  o8 : p7 < p8
  n1 : b1 < p7
  n2 : b2 < p7
  m1 : g < b1
  m2 : g < b2
section
variable {W0 : World} {g : Nat} {a : Option Addr} {len cap : Nat} {zs : List Int} {p7 p8 b1 b2 n : Nat} {C7 : Value → Array Value} {C8 : Array Value} {s : Int} {lo hi : List Int} {wr w' : World} {v7 vo : Value} {no : Nat} {xs : List Value}
theorem FM.trans (M : FM W0 g a len cap zs p7 p8 b1 b2 n C7 C8 s lo hi wr v7 vo no xs) (hl : Src.Left W0 wr w' g a len cap zs) : FM W0 g a len cap zs p7 p8 b1 b2 n C7 C8 s lo hi w' v7 vo no xs := by
  obtain ⟨d, o, k7, k8, tv, og, o8, n1, n2, m1, m2⟩ := M
  exact ⟨hl.di, own_kept o fun k hk => hl.far.block k (o.lt k hk).2 (by have := (o.lt k hk).1; simp; omega), hl.blk k7 (by omega), hl.blk k8 (by omega), ⟨tv.tv.left hl (by omega) (by omega), tv.re⟩, og, o8, n1, n2, m1, m2⟩
theorem FM.below (M : FM W0 g a len cap zs p7 p8 b1 b2 n C7 C8 s lo hi wr v7 vo no xs) (h : Below wr.heap.size wr w') : FM W0 g a len cap zs p7 p8 b1 b2 n C7 C8 s lo hi w' v7 vo no xs := by
  obtain ⟨d, o, k7, k8, tv, og, o8, n1, n2, m1, m2⟩ := M
  exact ⟨d.below h, own_below o h, hb h k7, hb h k8, tv.below h, og, o8, n1, n2, m1, m2⟩
theorem di_past {wr w' : World} (h : Src.Di W0 wr g a len cap zs) (f : Below (g + 1) wr w') : Src.Di W0 w' g a len cap zs := by
  obtain ⟨p, hp, hk⟩ := h.blk
  exact ⟨h.base, Nat.lt_of_lt_of_le h.lt f.size, h.bel.trans (f.mono (Nat.le_succ_of_le h.base)), h.row, h.small, p, hp, by rw [f.block g (by omega)]; exact hk⟩
theorem FM.set (M : FM W0 g a len cap zs p7 p8 b1 b2 n C7 C8 s lo hi wr v7 vo no xs) {b o : Nat} (v : Value) (hp : p8 < b) (hne : ∀ q, vo.ownBlock = some q → q ≠ b) : FM W0 g a len cap zs p7 p8 b1 b2 n C7 C8 s lo hi (wr.setCell ⟨b, o, none⟩ v) v7 vo no xs := by
  obtain ⟨d, ow, k7, k8, tv, og, o8, n1, n2, m1, m2⟩ := M
  exact ⟨di_past d ((Below.refl _ _).setCell (by show g + 1 ≤ b; omega) _), own_kept ow fun k hk => Below.heap_setCell wr ⟨b, o, none⟩ v k (hne k hk), st_far k7 (by omega) v, st_far k8 (by omega) v,
    ⟨tv_kept tv.tv (Below.heap_setCell wr ⟨b, o, none⟩ v b1 (by show b1 ≠ b; omega)) (Below.heap_setCell wr ⟨b, o, none⟩ v b2 (by show b2 ≠ b; omega)) (by simp [World.setCell]), tv.re⟩, og, o8, n1, n2, m1, m2⟩
theorem FM.grow (M : FM W0 g a len cap zs p7 p8 b1 b2 n C7 C8 s lo hi wr v7 vo no xs) (hg : wr.grownBy w' vo.ownBlock) {vo' : Value} {no' : Nat} {xs' : List Value} (ho : w'.ownsRow (p8 + 1) 37 6 vo' no' xs') : FM W0 g a len cap zs p7 p8 b1 b2 n C7 C8 s lo hi w' v7 vo' no' xs' := by
  obtain ⟨d, ow, k7, k8, tv, og, o8, n1, n2, m1, m2⟩ := M
  have z8 := (Array.getElem?_eq_some_iff.1 k8).1
  have K : ∀ b, b ≤ p8 → w'.heap[b]? = wr.heap[b]? := fun b hb' => hg.block b (by omega) (fun he => by have := (ow.lt b he.symm).1; omega)
  exact ⟨di_past d ((Below.refl _ _).grown hg (by omega) fun k hk => by have := (ow.lt k hk).1; omega), ho, (K _ (by omega)).trans k7, (K _ (by omega)).trans k8,
    ⟨tv_kept tv.tv (K _ (by omega)) (K _ (by omega)) hg.size, tv.re⟩, og, o8, n1, n2, m1, m2⟩
theorem FM.store7 (M : FM W0 g a len cap zs p7 p8 b1 b2 n C7 C8 s lo hi wr v7 vo no xs) (hC : ∃ c0 c1 c2 c3 c4 c5 c6 c7 c8 c10 : Value, ∀ u, C7 u = #[c0, c1, c2, c3, c4, c5, c6, c7, c8, u, c10]) (v : Value) : FM W0 g a len cap zs p7 p8 b1 b2 n C7 C8 s lo hi (wr.setCell ⟨p7, 9, none⟩ v) v vo no xs := by
  obtain ⟨d, ow, k7, k8, tv, og, o8, n1, n2, m1, m2⟩ := M
  obtain ⟨c0, c1, c2, c3, c4, c5, c6, c7, c8, c10, hC⟩ := hC
  rw [hC] at k7
  refine ⟨di_past d ((Below.refl _ _).setCell (by show g + 1 ≤ p7; omega) _), own_far ow (by omega) v, ?_, st_far k8 (by omega) v,
    ⟨tv_kept tv.tv (Below.heap_setCell wr ⟨p7, 9, none⟩ v b1 (by show b1 ≠ p7; omega)) (Below.heap_setCell wr ⟨p7, 9, none⟩ v b2 (by show b2 ≠ p7; omega)) (by simp [World.setCell]), tv.re⟩, og, o8, n1, n2, m1, m2⟩
  rw [hC]
  exact cells11_set9 k7 v
end
/-- A phase that an origin at (px, py, pz) and the time t explains. -/
structure Fit (s : Int) (lo hi : List Int) (px py pz t : Int) (q : Ph) : Prop where
  ok : PhS q
  z : res (zfun s lo hi px py pz px py pz q) t = 0
theorem near_pt (px py pz x y z : Int) : Geo.near3 px py pz px py pz x y z = Geo.sq3 x y z px py pz ∧ Geo.far3 px py pz px py pz x y z = Geo.sq3 x y z px py pz := by
  have h : ∀ u v : Int, max (u - v) (max (v - u) 0) * max (u - v) (max (v - u) 0) = (v - u) * (v - u) ∧ max (u - v) (v - u) * max (u - v) (v - u) = (v - u) * (v - u) := by
    intro u v
    by_cases h : v ≤ u
    · rw [show max (u - v) (max (v - u) 0) = u - v by omega, show max (u - v) (v - u) = u - v by omega]
      exact ⟨by grind, by grind⟩
    · rw [show max (u - v) (max (v - u) 0) = v - u by omega, show max (u - v) (v - u) = v - u by omega]
      exact ⟨rfl, rfl⟩
  unfold Geo.near3 Geo.far3 Geo.sq3
  refine ⟨?_, ?_⟩
  · rw [(h px x).1, (h py y).1, (h pz z).1]
  · rw [(h px x).2, (h py y).2, (h pz z).2]
theorem fit_of {w : World} {s : Int} {b1 b2 n : Nat} {lo hi : List Int} (W : Bound.Wide w s b1 b2 n lo hi) {px py pz t x y z E L Wt : Int} (h : PhS ⟨x, y, z, E, L, Wt⟩) (hD : Geo.sq3 x y z px py pz ≤ 160000) (hD0 : 0 ≤ Geo.sq3 x y z px py pz)
    (hE : E = t + Bound.LO s lo (Geo.sq3 x y z px py pz)) (hL : E ≤ L) : Fit s lo hi px py pz t ⟨x, y, z, E, L, Wt⟩ := by
  refine Fit.mk h ?_
  obtain ⟨b0, b1', b2'⟩ := W.bd hD0 hD
  unfold zfun
  rw [(near_pt px py pz x y z).1, (near_pt px py pz x y z).2]
  unfold res
  dsimp only
  omega
def FitAll (s : Int) (lo hi : List Int) (px py pz t : Int) (M : List Ph) : Prop := ∀ (k : Nat) (q : Ph), M[k]? = some q → Fit s lo hi px py pz t q
theorem fit_snoc {s : Int} {lo hi : List Int} {px py pz t : Int} {M : List Ph} (h : FitAll s lo hi px py pz t M) {q : Ph} (hq : Fit s lo hi px py pz t q) : FitAll s lo hi px py pz t (M ++ [q]) := by
  intro k p hp
  by_cases hk : k < M.length
  · rw [List.getElem?_append_left hk] at hp; exact h k p hp
  · rw [List.getElem?_append_right (by omega)] at hp
    have e : k - M.length = 0 := by
      rcases hh : k - M.length with _ | j
      · rfl
      · rw [hh] at hp; simp at hp
    rw [e] at hp
    simp at hp
    subst hp; exact hq
theorem FitAll.s {s : Int} {lo hi : List Int} {px py pz t : Int} {M : List Ph} (h : FitAll s lo hi px py pz t M) : PhAllS M := fun k q hq => (h k q hq).ok
/-- At that point no misfit is left. -/
theorem fit_zero {w : World} {s : Int} {b1 b2 n : Nat} {lo hi : List Int} {a b c d e f px py pz t : Int} (R : Rg a b c d e f) (S : Sub a b c d e f px py pz px py pz) (W : Bound.Wide w s b1 b2 n lo hi) {M : List Ph} (h : FitAll s lo hi px py pz t M) (n1 : 1 ≤ M.length) {cap : Int} (c0 : 1 ≤ cap) :
    (mf s lo hi cap px py pz px py pz M).2 ≤ 0 := by
  have B := best_is cap (wt M) (zn (M.map (zfun s lo hi px py pz px py pz))) M.length (by omega)
  have Z := zw_of R S W h.s c0
  have h1 := B.least Z (by omega) t
  have h2 := ck_0 cap (wt M) (zn (M.map (zfun s lo hi px py pz px py pz))) t c0 M.length fun k hk => by
    rw [zn_map (List.getElem?_eq_getElem hk)]
    exact (h k _ (List.getElem?_eq_getElem hk)).z
  rw [h2] at h1
  exact h1
/-- Where no misfit is left, no residual is left. -/
theorem res_zero {s : Int} {lo hi : List Int} {px py pz : Int} {M : List Ph} (hS : PhAllS M) {cap : Int} (c0 : 1 ≤ cap) (n1 : 1 ≤ M.length) (hm : (mf s lo hi cap px py pz px py pz M).2 = 0) : ∀ k, k < M.length → res (zn (M.map (zfun s lo hi px py pz px py pz)) k) (mf s lo hi cap px py pz px py pz M).1 = 0 := by
  have B := best_is cap (wt M) (zn (M.map (zfun s lo hi px py pz px py pz))) M.length (by omega)
  refine (ck_all0 cap (wt M) (zn (M.map (zfun s lo hi px py pz px py pz))) _ c0 M.length fun k hk => ?_).2 ?_
  · rw [wt_at (List.getElem?_eq_getElem hk)]
    exact (hS k _ (List.getElem?_eq_getElem hk)).w1
  · exact B.is.symm.trans hm
theorem blk_past {w w' : World} {b q : Nat} {o : Obj} (h : w.heap[b]? = some o) (f : w.grownBy w' (some q)) (h1 : b ≠ q) : w'.heap[b]? = some o :=
  (f.block b (Array.getElem?_eq_some_iff.1 h).1 (fun e => h1 (by cases e; rfl))).trans h
theorem wide_past {w w' : World} {s : Int} {b1 b2 n q : Nat} {lo hi : List Int} (h : Bound.Wide w s b1 b2 n lo hi) (f : w.grownBy w' (some q)) (h1 : b1 ≠ q) (h2 : b2 ≠ q) : Bound.Wide w' s b1 b2 n lo hi :=
  ⟨Mis.tv_kept h.tv (f.block b1 h.tv.e1 (fun e => h1 (by cases e; rfl))) (f.block b2 h.tv.e2 (fun e => h2 (by cases e; rfl))) f.size, h.re⟩
end Mis
end Go.Proofs.Ytggfmpkgnphleaa
