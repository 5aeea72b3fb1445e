/- Problems that the reader makes. -/
import Derived.Test.YtldgihlhioeipaaMisO
import Derived.Test.YtldgihlhioeipaaBoundD
import Derived.Test.YtldgihlhioeipaaPhase
import Derived.Test.YtldgihlhioeipaaPlacBC
import Derived.Test.YtldgihlhioeipaaTable
import Derived.Test.YtldgihlhioeipaaInvAB
set_option linter.unusedVariables false
set_option linter.unusedSimpArgs false
namespace Go.Proofs.Ytldgihlhioeipaa
open Go.RowKit
namespace Mis
theorem f6 {w : World} {g : Nat} {a b c d e f : Value} {t : TypeId} (h : w.heap[g]? = some (.cells #[a, b, c, d, e, f] t (0, 0))) : w.frozen? ⟨g, 0, none⟩ = false ∧ w.frozen? ⟨g, 1, none⟩ = false ∧ w.frozen? ⟨g, 2, none⟩ = false ∧ w.frozen? ⟨g, 3, none⟩ = false ∧ w.frozen? ⟨g, 4, none⟩ = false ∧ w.frozen? ⟨g, 5, none⟩ = false :=
  ⟨frozen_of_row w g 0 _ _ h, frozen_of_row w g 1 _ _ h, frozen_of_row w g 2 _ _ h, frozen_of_row w g 3 _ _ h, frozen_of_row w g 4 _ _ h, frozen_of_row w g 5 _ _ h⟩
theorem set6_3 {w : World} {g : Nat} {a b c d e f : Value} {t : TypeId} (h : w.heap[g]? = some (.cells #[a, b, c, d, e, f] t (0, 0))) (v : Value) : (w.setCell ⟨g, 3, none⟩ v).heap[g]? = some (.cells #[a, b, c, v, e, f] t (0, 0)) := (heap_setCell_same w g 3 _ _ v h).trans rfl
theorem set6_4 {w : World} {g : Nat} {a b c d e f : Value} {t : TypeId} (h : w.heap[g]? = some (.cells #[a, b, c, d, e, f] t (0, 0))) (v : Value) : (w.setCell ⟨g, 4, none⟩ v).heap[g]? = some (.cells #[a, b, c, d, v, f] t (0, 0)) := (heap_setCell_same w g 4 _ _ v h).trans rfl
theorem heap11 {g b : Nat} (w : World) (hne : b ≠ g) (a1 b1 c1 d1 e1 f1 s1 l1 h1 p1 q1 : Value) : (((((((((((w.setCell ⟨g, 0, none⟩ a1).setCell ⟨g, 1, none⟩ b1).setCell ⟨g, 2, none⟩ c1).setCell ⟨g, 3, none⟩ d1).setCell ⟨g, 4, none⟩ e1).setCell ⟨g, 5, none⟩ f1).setCell ⟨g, 6, none⟩ s1).setCell ⟨g, 7, none⟩ l1).setCell ⟨g, 8, none⟩ h1).setCell ⟨g, 9, none⟩ p1).setCell ⟨g, 10, none⟩ q1).heap[b]? = w.heap[b]? := ((Below.heap_setCell ((((((((((w.setCell ⟨g, 0, none⟩ a1).setCell ⟨g, 1, none⟩ b1).setCell ⟨g, 2, none⟩ c1).setCell ⟨g, 3, none⟩ d1).setCell ⟨g, 4, none⟩ e1).setCell ⟨g, 5, none⟩ f1).setCell ⟨g, 6, none⟩ s1).setCell ⟨g, 7, none⟩ l1).setCell ⟨g, 8, none⟩ h1).setCell ⟨g, 9, none⟩ p1) ⟨g, 10, none⟩ q1 b hne).trans ((Below.heap_setCell (((((((((w.setCell ⟨g, 0, none⟩ a1).setCell ⟨g, 1, none⟩ b1).setCell ⟨g, 2, none⟩ c1).setCell ⟨g, 3, none⟩ d1).setCell ⟨g, 4, none⟩ e1).setCell ⟨g, 5, none⟩ f1).setCell ⟨g, 6, none⟩ s1).setCell ⟨g, 7, none⟩ l1).setCell ⟨g, 8, none⟩ h1) ⟨g, 9, none⟩ p1 b hne).trans ((Below.heap_setCell ((((((((w.setCell ⟨g, 0, none⟩ a1).setCell ⟨g, 1, none⟩ b1).setCell ⟨g, 2, none⟩ c1).setCell ⟨g, 3, none⟩ d1).setCell ⟨g, 4, none⟩ e1).setCell ⟨g, 5, none⟩ f1).setCell ⟨g, 6, none⟩ s1).setCell ⟨g, 7, none⟩ l1) ⟨g, 8, none⟩ h1 b hne).trans ((Below.heap_setCell (((((((w.setCell ⟨g, 0, none⟩ a1).setCell ⟨g, 1, none⟩ b1).setCell ⟨g, 2, none⟩ c1).setCell ⟨g, 3, none⟩ d1).setCell ⟨g, 4, none⟩ e1).setCell ⟨g, 5, none⟩ f1).setCell ⟨g, 6, none⟩ s1) ⟨g, 7, none⟩ l1 b hne).trans ((Below.heap_setCell ((((((w.setCell ⟨g, 0, none⟩ a1).setCell ⟨g, 1, none⟩ b1).setCell ⟨g, 2, none⟩ c1).setCell ⟨g, 3, none⟩ d1).setCell ⟨g, 4, none⟩ e1).setCell ⟨g, 5, none⟩ f1) ⟨g, 6, none⟩ s1 b hne).trans ((Below.heap_setCell (((((w.setCell ⟨g, 0, none⟩ a1).setCell ⟨g, 1, none⟩ b1).setCell ⟨g, 2, none⟩ c1).setCell ⟨g, 3, none⟩ d1).setCell ⟨g, 4, none⟩ e1) ⟨g, 5, none⟩ f1 b hne).trans ((Below.heap_setCell ((((w.setCell ⟨g, 0, none⟩ a1).setCell ⟨g, 1, none⟩ b1).setCell ⟨g, 2, none⟩ c1).setCell ⟨g, 3, none⟩ d1) ⟨g, 4, none⟩ e1 b hne).trans ((Below.heap_setCell (((w.setCell ⟨g, 0, none⟩ a1).setCell ⟨g, 1, none⟩ b1).setCell ⟨g, 2, none⟩ c1) ⟨g, 3, none⟩ d1 b hne).trans ((Below.heap_setCell ((w.setCell ⟨g, 0, none⟩ a1).setCell ⟨g, 1, none⟩ b1) ⟨g, 2, none⟩ c1 b hne).trans ((Below.heap_setCell (w.setCell ⟨g, 0, none⟩ a1) ⟨g, 1, none⟩ b1 b hne).trans (Below.heap_setCell w ⟨g, 0, none⟩ a1 b hne)))))))))))
theorem lblk {W w w' : World} {g : Nat} {a : Option Addr} {len cap : Nat} {zs : List Int} (l : Src.Left W w w' g a len cap zs) {k : Nat} {o : Obj} (hk : w.heap[k]? = some o) (hne : k ≠ g) : w'.heap[k]? = some o := l.blk hk hne
theorem tv_kept {W w : World} {s : Int} {b1 b2 n : Nat} {lo hi : List Int} (h : Trav.TV W s b1 b2 n lo hi) (h1 : w.heap[b1]? = W.heap[b1]?) (h2 : w.heap[b2]? = W.heap[b2]?) (hs : W.heap.size ≤ w.heap.size) : Trav.TV w s b1 b2 n lo hi :=
  ⟨Trav.ints_kept h.l1 h1, Trav.ints_kept h.l2 h2, h.n1, h.n2, h.n3, h.n9, h.s1, h.s9, h.val, h.mono, Nat.lt_of_lt_of_le h.e1 hs, Nat.lt_of_lt_of_le h.e2 hs⟩
/-- The memory while a problem is made. -/
structure PM (W0 w : World) (g : Nat) (a : Option Addr) (len cap : Nat) (zs : List Int) (p7 p8 b1 b2 n : Nat) (C7 : Value → Array Value) (C8 : Array Value) (s : Int) (lo hi : List Int) (wr : World) (v7 vo : Value) (no : Nat) (xs : List Value) : Prop where
  di : Src.Di W0 w g a len cap zs
  left : Src.Left W0 w wr g a len cap zs
  own : wr.ownsRow (p8 + 1) 63 6 vo no xs
  k0 : wr.heap[w.heap.size]? = some (.cells #[.int .i64 0, .int .i64 0, .int .i64 0, .int .i64 0, .int .i64 0, .int .i64 0, .int .i64 0, .slice none 0 0, .slice none 0 0, .slice none 0 0, .int .i64 0] 36 (0, 0))
  k7 : wr.heap[p7]? = some (.cells (C7 v7) 36 (0, 0))
  k8 : wr.heap[p8]? = some (.cells C8 24 (0, 0))
  tv : Bound.Wide wr s b1 b2 n lo hi
  og : g < w.heap.size
  o7 : w.heap.size < p7
  o8 : p7 < p8
  n1 : b1 < p7
  n2 : b2 < p7
  m1 : w.heap.size < b1
  m2 : w.heap.size < b2
section
variable {W0 w : World} {g : Nat} {a : Option Addr} {len cap : Nat} {zs : List Int} {p7 p8 b1 b2 n : Nat} {C7 : Value → Array Value} {C8 : Array Value} {s : Int} {lo hi : List Int} {wr w' : World} {v7 vo : Value} {no : Nat} {xs : List Value}
theorem PM.trans (M : PM W0 w g a len cap zs p7 p8 b1 b2 n C7 C8 s lo hi wr v7 vo no xs) (hl : Src.Left W0 wr w' g a len cap zs) : PM W0 w g a len cap zs p7 p8 b1 b2 n C7 C8 s lo hi w' v7 vo no xs := by
  obtain ⟨d, l, o, k0, k7, k8, tv, og, o7, o8, n1, n2, m1, m2⟩ := M
  exact ⟨d, l.trans hl, own_kept o fun k hk => hl.far.block k (o.lt k hk).2 (by have := (o.lt k hk).1; simp; omega), hl.blk k0 (by omega), hl.blk k7 (by omega), hl.blk k8 (by omega), ⟨tv.tv.left hl (by omega) (by omega), tv.re⟩, og, o7, o8, n1, n2, m1, m2⟩
theorem PM.below (M : PM W0 w g a len cap zs p7 p8 b1 b2 n C7 C8 s lo hi wr v7 vo no xs) (h : Below wr.heap.size wr w') : PM W0 w g a len cap zs p7 p8 b1 b2 n C7 C8 s lo hi w' v7 vo no xs := by
  obtain ⟨d, l, o, k0, k7, k8, tv, og, o7, o8, n1, n2, m1, m2⟩ := M
  exact ⟨d, l.below h, own_below o h, hb h k0, hb h k7, hb h k8, tv.below h, og, o7, o8, n1, n2, m1, m2⟩
theorem PM.set (M : PM W0 w g a len cap zs p7 p8 b1 b2 n C7 C8 s lo hi wr v7 vo no xs) {b o : Nat} (v : Value) (hp : p8 < b) (hne : ∀ q, vo.ownBlock = some q → q ≠ b) : PM W0 w g a len cap zs p7 p8 b1 b2 n C7 C8 s lo hi (wr.setCell ⟨b, o, none⟩ v) v7 vo no xs := by
  obtain ⟨d, l, ow, k0, k7, k8, tv, og, o7, o8, n1, n2, m1, m2⟩ := M
  exact ⟨d, Src.Left.past d l ((Below.refl _ _).setCell (by show w.heap.size ≤ b; omega) _), own_kept ow fun k hk => Below.heap_setCell wr ⟨b, o, none⟩ v k (hne k hk), st_far k0 (by omega) v, st_far k7 (by omega) v, st_far k8 (by omega) v,
    ⟨tv_kept tv.tv (Below.heap_setCell wr ⟨b, o, none⟩ v b1 (by show b1 ≠ b; omega)) (Below.heap_setCell wr ⟨b, o, none⟩ v b2 (by show b2 ≠ b; omega)) (by simp [World.setCell]), tv.re⟩, og, o7, o8, n1, n2, m1, m2⟩
theorem PM.grow (M : PM W0 w g a len cap zs p7 p8 b1 b2 n C7 C8 s lo hi wr v7 vo no xs) (hg : wr.grownBy w' vo.ownBlock) {vo' : Value} {no' : Nat} {xs' : List Value} (ho : w'.ownsRow (p8 + 1) 63 6 vo' no' xs') : PM W0 w g a len cap zs p7 p8 b1 b2 n C7 C8 s lo hi w' v7 vo' no' xs' := by
  obtain ⟨d, l, ow, k0, k7, k8, tv, og, o7, o8, n1, n2, m1, m2⟩ := M
  have z8 := (Array.getElem?_eq_some_iff.1 k8).1
  have K : ∀ b, b ≤ p8 → w'.heap[b]? = wr.heap[b]? := fun b hb' => hg.block b (by omega) (fun he => by have := (ow.lt b he.symm).1; omega)
  exact ⟨d, Src.Left.past d l ((Below.refl _ _).grown hg (by omega) fun k hk => by have := (ow.lt k hk).1; omega), ho, (K _ (by omega)).trans k0, (K _ (by omega)).trans k7, (K _ (by omega)).trans k8,
    ⟨tv_kept tv.tv (K _ (by omega)) (K _ (by omega)) hg.size, tv.re⟩, og, o7, o8, n1, n2, m1, m2⟩
theorem PM.store7 (M : PM W0 w g a len cap zs p7 p8 b1 b2 n C7 C8 s lo hi wr v7 vo no xs) (hC : ∃ c0 c1 c2 c3 c4 c5 c6 c7 c8 c10 : Value, ∀ u, C7 u = #[c0, c1, c2, c3, c4, c5, c6, c7, c8, u, c10]) (v : Value) : PM W0 w g a len cap zs p7 p8 b1 b2 n C7 C8 s lo hi (wr.setCell ⟨p7, 9, none⟩ v) v vo no xs := by
  obtain ⟨d, l, ow, k0, k7, k8, tv, og, o7, o8, n1, n2, m1, m2⟩ := M
  obtain ⟨c0, c1, c2, c3, c4, c5, c6, c7, c8, c10, hC⟩ := hC
  rw [hC] at k7
  refine ⟨d, Src.Left.past d l ((Below.refl _ _).setCell (by show w.heap.size ≤ p7; omega) _), own_far ow (by omega) v, st_far k0 (by omega) v, ?_, st_far k8 (by omega) v,
    ⟨tv_kept tv.tv (Below.heap_setCell wr ⟨p7, 9, none⟩ v b1 (by show b1 ≠ p7; omega)) (Below.heap_setCell wr ⟨p7, 9, none⟩ v b2 (by show b2 ≠ p7; omega)) (by simp [World.setCell]), tv.re⟩, og, o7, o8, n1, n2, m1, m2⟩
  rw [hC]
  exact cells11_set9 k7 v
end
theorem sq_any (m q : Int) (h0 : -1000000 ≤ m) (h1 : m ≤ 1000000) (hq : m * m = q) (w : World) :
    Calls Try.prog 22 #[.int .i64 m] w fun r w' => r = .returned (.int .i64 q) ∧ Below w.heap.size w w' := by
  obtain ⟨a0, a1⟩ := Geo.prod_bd h0 h1
  subst hq
  go_enter Try.func22, Try.ntmps22
  go_wp2
  go_ret
  exact ⟨rfl, Below.refl _ _⟩
set_option maxRecDepth 100000 in
set_option maxHeartbeats 16000000 in
theorem problem_any (side : Int) (most : Nat) (d0 : 0 ≤ side) (d9 : side ≤ 30) (mo1 : 1 ≤ most) (mo9 : most ≤ 50) {W0 w : World} {g : Nat} {a : Option Addr} {len cap : Nat} {zs : List Int} (h : Src.Di W0 w g a len cap zs) :
    Calls Try.prog 6 #[.pointer (some ⟨g, 0, none⟩), .int .i64 side, .int .i64 (most : Int)] w fun r w' => ProbSaid w.heap.size side most r w' ∧ Src.Left W0 w w' g a len cap zs := by
  obtain ⟨i0, hi, hz0, hz1, hz2⟩ : ∃ i, Try.prog.info? 63 = some i ∧ i.zero = some (.agg #[.int .i64 0, .int .i64 0, .int .i64 0, .int .i64 0, .int .i64 0, .int .i64 0]) ∧ i.size = 6 ∧ i.bytes = 48 := ⟨_, rfl, by kernel_rfl, by kernel_rfl, by kernel_rfl⟩
  have H := Lib.hid h
  have hg := h.lt
  have K0 := Lib.hid (heap_alloc_new w (.cells #[.int .i64 0, .int .i64 0, .int .i64 0, .int .i64 0, .int .i64 0, .int .i64 0, .int .i64 0, .slice none 0 0, .slice none 0 0, .slice none 0 0, .int .i64 0] 36))
  have L0 := Lib.hid ((Src.Left.refl h).below (Src.new_block (.cells #[.int .i64 0, .int .i64 0, .int .i64 0, .int .i64 0, .int .i64 0, .int .i64 0, .int .i64 0, .slice none 0 0, .slice none 0 0, .slice none 0 0, .int .i64 0] 36)))
  have e1 : (w.alloc (.cells #[.int .i64 0, .int .i64 0, .int .i64 0, .int .i64 0, .int .i64 0, .int .i64 0, .int .i64 0, .slice none 0 0, .slice none 0 0, .slice none 0 0, .int .i64 0] 36)).heap.size = w.heap.size + 1 := by simp
  clear h
  go_enter Try.func6, Try.ntmps6
  go_wp2_with fail
  refine (Src.box_any 20 side L0.out.di (by omega) (by omega) d0 (by omega)).mono ?_
  rintro e w1 ⟨⟨a1, a2, a3, d1, d2, d3, rfl, bv, s1, s2, s3, x0, x1, y0, y1, z0, z1⟩, hl⟩
  have lt1 : w.heap.size < w1.heap.size := by have := hl.far.size; omega
  replace K0 := Lib.hid (hl.blk K0.out (by omega))
  replace L0 := Lib.hid (L0.out.trans hl)
  clear hl e1
  go_wp2_with fail
  refine (Trav.table_any L0.out.di).mono ?_
  rintro e w2 ⟨⟨s, b1, b2, n, c1, c2, lo, hi', rfl, tv0, re, s9, n9, lb1, lb2⟩, hl⟩
  have lt2 : w1.heap.size ≤ w2.heap.size := hl.far.size
  replace K0 := Lib.hid (hl.blk K0.out (by omega))
  replace L0 := Lib.hid (L0.out.trans hl)
  have tb1 := tv0.e1
  have tb2 := tv0.e2
  have ss1 := tv0.s1
  have tv := Lib.hid (Bound.Wide.mk tv0 re)
  clear hl tv0 re
  have I3 : Hid (Src.Ints (w2.alloc (.cells #[.int .i64 10, .int .i64 50, .int .i64 200, .int .i64 1000] 3)) w2.heap.size [10, 50, 200, 1000]) := Lib.hid (by simpa using Src.ints_alloc w2 [10, 50, 200, 1000] 3)
  have Y3 : Hid (Below w2.heap.size w2 (w2.alloc (.cells #[.int .i64 10, .int .i64 50, .int .i64 200, .int .i64 1000] 3))) := Lib.hid (Src.new_block _)
  go_wp2_with fail
  refine (Src.pick_any w2.heap.size [10, 50, 200, 1000] 4 4 (L0.out.below Y3.out).di I3.out rfl (by omega) (by omega) (by omega) (by simp)).mono ?_
  rintro e w3 ⟨⟨cp, rfl, hcp⟩, hl⟩
  have lt3 : w2.heap.size < w3.heap.size := by have := hl.far.size; have := Y3.out.size; simp at this; have := hl.far.size; simp at this; omega
  replace K0 := Lib.hid (hl.blk (hb Y3.out K0.out) (by omega))
  replace tv := Lib.hid (Bound.Wide.mk ((tv.out.below Y3.out).tv.left hl (by omega) (by omega)) tv.out.re)
  replace L0 := Lib.hid ((L0.out.below Y3.out).trans hl)
  have cp0 : 1 ≤ cp ∧ cp ≤ 1000 := by simp only [List.mem_cons, List.not_mem_nil, or_false] at hcp; omega
  obtain ⟨cp0, cp9⟩ := cp0
  clear hl Y3 I3 hcp
  obtain ⟨w4, hw4⟩ : ∃ w4, w4 = w3.alloc (.cells #[.int .i64 a1, .int .i64 a2, .int .i64 a3, .int .i64 d1, .int .i64 d2, .int .i64 d3, .int .i64 s, .slice (some ⟨b1, 0, none⟩) n c1, .slice (some ⟨b2, 0, none⟩) n c2, .slice none 0 0, .int .i64 cp] 36) := ⟨_, rfl⟩
  have Y4 : Hid (Below w3.heap.size w3 w4) := Lib.hid (by rw [hw4]; exact new_block _)
  have K7 := Lib.hid (show w4.heap[w3.heap.size]? = some (.cells ((fun v => #[.int .i64 a1, .int .i64 a2, .int .i64 a3, .int .i64 d1, .int .i64 d2, .int .i64 d3, .int .i64 s, .slice (some ⟨b1, 0, none⟩) n c1, .slice (some ⟨b2, 0, none⟩) n c2, v, .int .i64 cp]) (.slice none 0 0)) 36 (0, 0)) by rw [hw4]; exact heap_alloc_new w3 _)
  have lt4 : w3.heap.size < w4.heap.size := by rw [hw4]; simp
  go_upto_region 2 with fail
  rw [← hw4]
  clear hw4
  replace K0 := Lib.hid (hb Y4.out K0.out)
  replace tv := Lib.hid (tv.out.below Y4.out)
  replace L0 := Lib.hid (L0.out.below Y4.out)
  clear Y4
  obtain ⟨p7, hp7⟩ : ∃ p7, p7 = w3.heap.size := ⟨_, rfl⟩
  rw [← hp7] at K7 lt4 lt3 ⊢
  have o7 : w.heap.size < p7 := by omega
  have n1 : b1 < p7 := by omega
  have n2 : b2 < p7 := by omega
  have m1 : w.heap.size < b1 := by omega
  have m2 : w.heap.size < b2 := by omega
  clear hp7 lb1 lb2 tb1 tb2 lt1 lt2 lt3
  obtain ⟨f0, f1, f2, f3, f4, f5, f6, f7, f8, f9, f10⟩ := c11 K7.out
  have PT := Lib.hid (Src.point_any a1 a2 a3 d1 d2 d3 bv L0.out.di)
  go_wp2_with fail
  refine PT.out.mono ?_
  rintro e w5 ⟨⟨px, py, pz, rfl, px0, px1, py0, py1, pz0, pz1⟩, hl⟩
  have lt5 : w4.heap.size ≤ w5.heap.size := hl.far.size
  replace K0 := Lib.hid (hl.blk K0.out (by omega))
  replace K7 := Lib.hid (hl.blk K7.out (by omega))
  replace tv := Lib.hid (Bound.Wide.mk (tv.out.tv.left hl (by omega) (by omega)) tv.out.re)
  replace L0 := Lib.hid (L0.out.trans hl)
  clear hl PT f0 f1 f2 f3 f4 f5 f6 f7 f8 f9 f10
  go_wp2_with fail
  refine (Src.n_any 500 L0.out.di (by omega) (by omega)).mono ?_
  rintro e w6 ⟨⟨tt, rfl, tt0, tt1⟩, hl⟩
  have lt6 : w5.heap.size ≤ w6.heap.size := hl.far.size
  replace K0 := Lib.hid (hl.blk K0.out (by omega))
  replace K7 := Lib.hid (hl.blk K7.out (by omega))
  replace tv := Lib.hid (Bound.Wide.mk (tv.out.tv.left hl (by omega) (by omega)) tv.out.re)
  replace L0 := Lib.hid (L0.out.trans hl)
  clear hl
  obtain ⟨w7, hw7⟩ : ∃ w7, w7 = w6.alloc (.cells #[.int .i64 px, .int .i64 py, .int .i64 pz] 24) := ⟨_, rfl⟩
  have Y7 : Hid (Below w6.heap.size w6 w7) := Lib.hid (by rw [hw7]; exact new_block _)
  have K8 := Lib.hid (show w7.heap[w6.heap.size]? = some (.cells #[.int .i64 px, .int .i64 py, .int .i64 pz] 24 (0, 0)) by rw [hw7]; exact heap_alloc_new w6 _)
  go_upto_region 3 with fail
  rw [← hw7]
  clear hw7
  obtain ⟨t, ht⟩ : ∃ t, t = 1000 + tt := ⟨_, rfl⟩
  rw [← ht]
  have t0 : 1000 ≤ t := by omega
  have t9 : t ≤ 1500 := by omega
  clear ht tt0 tt1
  have o8 : p7 < w6.heap.size := by omega
  have M0 : Hid (PM W0 w g a len cap zs p7 w6.heap.size b1 b2 n (fun v => #[.int .i64 a1, .int .i64 a2, .int .i64 a3, .int .i64 d1, .int .i64 d2, .int .i64 d3, .int .i64 s, .slice (some ⟨b1, 0, none⟩) n c1, .slice (some ⟨b2, 0, none⟩) n c2, v, .int .i64 cp]) #[.int .i64 px, .int .i64 py, .int .i64 pz] s lo hi' w7 (.slice none 0 0) (.slice none 0 0) 0 (cellsP [])) := Lib.hid
    ⟨H.out, L0.out.below Y7.out, World.ownsRow_nil _ _ _ _, hb Y7.out K0.out, hb Y7.out K7.out, K8.out, tv.out.below Y7.out, hg, o7, o8, n1, n2, m1, m2⟩
  clear Y7 K0 K7 K8 tv L0 lt4 lt5 lt6
  generalize w6.heap.size = p8 at *
  generalize w7 = w6 at *
  go_wp2_with fail
  refine (Src.n_any (most : Int) M0.out.left.di (by omega) (by omega)).mono ?_
  rintro e w7 ⟨⟨v0, rfl, v00, v01⟩, hl⟩
  replace M0 := Lib.hid (M0.out.trans hl)
  obtain ⟨m0, rfl⟩ := Int.eq_ofNat_of_zero_le v00
  clear hl
  go_wp2_with fail
  go_loopw [10] (fun i wr => ∃ (m nl : Nat) (ad : Option Addr) (kk cc : Nat) (L : List Ph), i = .int .i64 (m : Int) ∧ nl + m ≤ most ∧ 1 ≤ nl + m ∧ Hid (kk = nl) ∧ Hid (L.length = nl) ∧ Hid (PhAll L) ∧ Hid (PM W0 w g a len cap zs p7 p8 b1 b2 n (fun v => #[.int .i64 a1, .int .i64 a2, .int .i64 a3, .int .i64 d1, .int .i64 d2, .int .i64 d3, .int .i64 s, .slice (some ⟨b1, 0, none⟩) n c1, .slice (some ⟨b2, 0, none⟩) n c2, v, .int .i64 cp]) #[.int .i64 px, .int .i64 py, .int .i64 pz] s lo hi' wr (.slice ad kk cc) (.slice ad kk cc) kk (cellsP L))) (fun i _ => (intOf i).toNat)
  case atStart => exact ⟨m0 + 1, 0, none, 0, 0, [], congrArg (Value.int .i64) (by push_cast; omega), by omega, by omega, Lib.hid rfl, Lib.hid rfl, Lib.hid (fun k q hq => by simp at hq), M0⟩
  case round =>
    clear M0 v00 v01
    obtain ⟨m, nl, ad, kk, cc, L, rfl, hm, hm1, hkk, hLl, HL, M⟩ := hrel
    by_cases hm0 : 0 < m
    · obtain ⟨m', rfl⟩ : ∃ m', m = m' + 1 := ⟨m - 1, by omega⟩
      have hm0' : (0 : Int) < ((m' + 1 : Nat) : Int) := by omega
      have hkk9 : kk ≤ 50 := by rw [hkk.out]; omega
      go_wp2_with fail
      refine (Src.phase_any M.out.left.di).mono ?_
      rintro e w8 ⟨⟨x, y, z, E, Lt, Wt, rfl, i0', i1, i2, i3, i4, i5, i6, i7, i8, i9, i10, i11⟩, hl⟩
      replace M := Lib.hid (M.out.trans hl)
      clear hl
      obtain ⟨w9, hw9⟩ : ∃ w9, w9 = w8.alloc (.cells #[.int .i64 x, .int .i64 y, .int .i64 z, .int .i64 E, .int .i64 Lt, .int .i64 Wt] 63) := ⟨_, rfl⟩
      have Y9 : Hid (Below w8.heap.size w8 w9) := Lib.hid (by rw [hw9]; exact new_block _)
      have N := Lib.hid (show w9.heap[w8.heap.size]? = some (.cells #[.int .i64 x, .int .i64 y, .int .i64 z, .int .i64 E, .int .i64 Lt, .int .i64 Wt] 63 (0, 0)) by rw [hw9]; exact heap_alloc_new w8 _)
      go_upto_region 7 with fail
      rw [← hw9]
      clear hw9
      have z8 := (Array.getElem?_eq_some_iff.1 M.out.k8).1
      have og := M.out.og
      have hb11p : p8 < w8.heap.size := z8
      have hb11 : w8.heap.size ≠ g := by have := M.out.o7; have := M.out.o8; omega
      have hne11 : ∀ q, (Value.slice ad kk cc).ownBlock = some q → q ≠ w8.heap.size := fun q hq => by have := (M.out.own.lt q hq).2; omega
      replace M := Lib.hid (M.out.below Y9.out)
      clear Y9 z8
      generalize w8.heap.size = b11 at *
      go_wp2_with fail
      refine (Src.n_any 4 M.out.left.di (by omega) (by omega)).mono ?_
      rintro e w12 ⟨⟨v4, rfl, v40, v41⟩, hl⟩
      replace M := Lib.hid (M.out.trans hl)
      replace N := Lib.hid (lblk hl N.out hb11)
      clear hl
      replace hne11 := Lib.hid hne11
      by_cases hv4 : 0 < v4
      · obtain ⟨dx, hdx⟩ : ∃ dx, dx = x - px := ⟨_, rfl⟩
        obtain ⟨dy, hdy⟩ : ∃ dy, dy = y - py := ⟨_, rfl⟩
        obtain ⟨dz, hdz⟩ : ∃ dz, dz = z - pz := ⟨_, rfl⟩
        have bx := bv.x
        obtain ⟨sx, hsx⟩ : ∃ sx, dx * dx = sx := ⟨_, rfl⟩
        obtain ⟨sy, hsy⟩ : ∃ sy, dy * dy = sy := ⟨_, rfl⟩
        obtain ⟨sz, hsz⟩ : ∃ sz, dz * dz = sz := ⟨_, rfl⟩
        have qx := Geo.prod_bd (u := dx) (m := 120) (by omega) (by omega)
        have qy := Geo.prod_bd (u := dy) (m := 120) (by omega) (by omega)
        have qz := Geo.prod_bd (u := dz) (m := 120) (by omega) (by omega)
        rw [hsx] at qx
        rw [hsy] at qy
        rw [hsz] at qz
        have SX := Lib.hid (sq_any dx sx (by omega) (by omega) hsx)
        have SY := Lib.hid (sq_any dy sy (by omega) (by omega) hsy)
        have SZ := Lib.hid (sq_any dz sz (by omega) (by omega) hsz)
        obtain ⟨D, hD⟩ : ∃ D, D = sx + sy + sz := ⟨_, rfl⟩
        obtain ⟨s2', hs2⟩ : ∃ s2', s2' = sx + sy := ⟨_, rfl⟩
        have D9 : D ≤ 43200 := by omega
        have w1' : IntKind.i64.wrap (x - px) = dx := by rw [← hdx]; exact IntWalk.i64_in _ (by omega)
        have w2' : IntKind.i64.wrap (y - py) = dy := by rw [← hdy]; exact IntWalk.i64_in _ (by omega)
        have w3' : IntKind.i64.wrap (z - pz) = dz := by rw [← hdz]; exact IntWalk.i64_in _ (by omega)
        have w4' : IntKind.i64.wrap (sx + sy) = s2' := by rw [← hs2]; exact IntWalk.i64_in _ (by omega)
        have w5' : IntKind.i64.wrap (s2' + sz) = D := by rw [show s2' + sz = D by omega]; exact IntWalk.i64_in _ (by omega)
        have WR := Lib.hid (And.intro w1' (And.intro w2' (And.intro w3' (And.intro w4' w5'))))
        replace hsx := Lib.hid hsx
        replace hsy := Lib.hid hsy
        replace hsz := Lib.hid hsz
        replace hD := Lib.hid hD
        replace hs2 := Lib.hid hs2
        clear w1' w2' w3' w4' w5' qx qy qz hdx hdy hdz
        go_wp2_with fail
        obtain ⟨wo, rfl⟩ : ∃ wo : World, wo = wr := ⟨_, rfl⟩
        go_loopw [12] (fun u wr => ∃ dd : Nat, u = .int .i64 (dd : Int) ∧ dd ≤ 400 ∧ Hid (PM W0 w g a len cap zs p7 p8 b1 b2 n (fun v => #[.int .i64 a1, .int .i64 a2, .int .i64 a3, .int .i64 d1, .int .i64 d2, .int .i64 d3, .int .i64 s, .slice (some ⟨b1, 0, none⟩) n c1, .slice (some ⟨b2, 0, none⟩) n c2, v, .int .i64 cp]) #[.int .i64 px, .int .i64 py, .int .i64 pz] s lo hi' wr (.slice ad kk cc) (.slice ad kk cc) kk (cellsP L)) ∧ Hid (wr.heap[b11]? = some (.cells #[.int .i64 x, .int .i64 y, .int .i64 z, .int .i64 E, .int .i64 Lt, .int .i64 Wt] 63 (0, 0)))) (fun u _ => 400 - (intOf u).toNat)
        case atStart => exact ⟨0, rfl, by omega, M, N⟩
        case round =>
          clear M N
          obtain ⟨dd, rfl, hdd, M, N⟩ := hrel
          obtain ⟨dq, hdq⟩ : ∃ dq, (dd : Int) * dd = dq := ⟨_, rfl⟩
          have dq9 := Geo.prod_bd (u := (dd : Int)) (m := 400) (by omega) (by omega)
          rw [hdq] at dq9
          obtain ⟨dq0, dq9⟩ := dq9
          have E6 := Lib.hid fun w' (h' : Below wr.heap.size wr w') => cell6 (hb h' N.out)
          have E8 := Lib.hid fun w' (h' : Below wr.heap.size wr w') => cell3 (hb h' M.out.k8)
          have wd : IntKind.i64.wrap ((dd : Int) * dd) = dq := by rw [hdq]; exact IntWalk.i64_in _ (by omega)
          by_cases hlt : dq < D
          · have hd4 : dd < 400 := by
              rcases Nat.lt_or_ge dd 400 with h | h
              · exact h
              · exfalso
                have := Int.mul_le_mul (show (400 : Int) ≤ dd by omega) (show (400 : Int) ≤ dd by omega) (by decide) (by omega)
                omega
            have hdec : decide (dq < D) = true := by simpa using hlt
            clear hlt dq0 dq9 D9
            replace hdq := Lib.hid hdq
            obtain ⟨w1', w2', w3', w4', w5'⟩ := WR.out
            go_wp2_with fail
            refine Buf.region_calm wr (by kernel_rfl) (by kernel_rfl) (Below.refl _ _) ?_
            repeat (go_big_quiet_step ((intro hC; first
              | (go_at_call 22; first | (with_reducible exact Buf.calm hC (SX.out _)) | (with_reducible exact Buf.calm hC (SY.out _)) | (with_reducible exact Buf.calm hC (SZ.out _)))
              | rfl
              | (simp only [(E6.out _ hC).1, (E6.out _ hC).2.1, (E6.out _ hC).2.2.1, Result.andThen_ok]; exact ⟨trivial, rfl⟩)
              | (simp only [(E8.out _ hC).1, (E8.out _ hC).2.1, (E8.out _ hC).2.2, Result.andThen_ok]; exact ⟨trivial, rfl⟩))))
            refine wpQuiet_nil ?_
            intro w14 hb4
            have M4 := Lib.hid (M.out.below hb4)
            have N4 := Lib.hid (hb hb4 N.out)
            clear w1' w2' w3' w4' w5' wd hb4 E6 E8
            go_wp2_with fail
            go_roundw
            case rel => exact ⟨dd + 1, by go_num, by omega, M4, N4⟩
            case measure => simp [intOf]; omega
          · have hdec : decide (dq < D) = false := by simpa using hlt
            have ss1' := M.out.tv.tv.s1
            have re' := M.out.tv.re
            obtain ⟨q, hq⟩ : ∃ q : Nat, (dd : Int) / s = (q : Int) := ⟨((dd : Int) / s).toNat, by have := Int.ediv_nonneg (show (0 : Int) ≤ dd by omega) (show 0 ≤ s by omega); omega⟩
            have hqn : q < n := by
              have h1 : (dd : Int) / s < n := (Int.ediv_lt_iff_lt_mul (by omega)).2 (by
                have : (n : Int) * s = s * ((n : Int) - 1) + s := by rw [Int.mul_sub, Int.mul_one, Int.mul_comm]; omega
                omega)
              omega
            obtain ⟨lq0, lq1, lq2⟩ := M.out.tv.tv.val q hqn
            have LW := Lib.hid fun wx (h : Bound.Wide wx s b1 b2 n lo hi') => h.tv.at1 q hqn
            have lq9 : lo.getD q 0 ≤ 1099511627776 := by omega
            clear lq1 lq2
            generalize lo.getD q 0 = lq at lq0 lq9 LW
            replace hq := Lib.hid hq
            clear hlt dq0 dq9 D9 re'
            replace hdq := Lib.hid hdq
            obtain ⟨w1', w2', w3', w4', w5'⟩ := WR.out
            go_wp2_with fail
            refine Buf.region_calm wr (by kernel_rfl) (by kernel_rfl) (Below.refl _ _) ?_
            repeat (go_big_quiet_step ((intro hC; first
              | (go_at_call 22; first | (with_reducible exact Buf.calm hC (SX.out _)) | (with_reducible exact Buf.calm hC (SY.out _)) | (with_reducible exact Buf.calm hC (SZ.out _)))
              | rfl
              | (simp only [(E6.out _ hC).1, (E6.out _ hC).2.1, (E6.out _ hC).2.2.1, Result.andThen_ok]; exact ⟨trivial, rfl⟩)
              | (simp only [(E8.out _ hC).1, (E8.out _ hC).2.1, (E8.out _ hC).2.2, Result.andThen_ok]; exact ⟨trivial, rfl⟩))))
            refine wpQuiet_nil ?_
            intro w14 hb4
            have M4 := Lib.hid (M.out.below hb4)
            have N4 := Lib.hid (hb hb4 N.out)
            clear w1' w2' w3' w4' w5' wd hb4 E6 E8 M N SX SY SZ WR hsx hsy hsz hD hs2 hdec hdq
            have hne11 := hne11.out
            go_wp2_with fail
            have hw0 : PM W0 w g a len cap zs p7 p8 b1 b2 n (fun v => #[.int .i64 a1, .int .i64 a2, .int .i64 a3, .int .i64 d1, .int .i64 d2, .int .i64 d3, .int .i64 s, .slice (some ⟨b1, 0, none⟩) n c1, .slice (some ⟨b2, 0, none⟩) n c2, v, .int .i64 cp]) #[.int .i64 px, .int .i64 py, .int .i64 pz] s lo hi' w14.drew (.slice ad kk cc) (.slice ad kk cc) kk (cellsP L) ∧ w14.drew.heap[b11]? = some (.cells #[.int .i64 x, .int .i64 y, .int .i64 z, .int .i64 E, .int .i64 Lt, .int .i64 Wt] 63 (0, 0)) := ⟨M4.out.below ((Below.refl _ _).drew), N4.out⟩
            refine wp_region_noPanic ?_
            refine wp_region_any (by kernel_rfl) ?_
            refine Inv.wpAny_inv (fun k => k == 16) [71, 72, 73, 74, 75, 76, 77, 78, 79, 80, 81, 82, 83, 84, 85, 86] (fun w' => PM W0 w g a len cap zs p7 p8 b1 b2 n (fun v => #[.int .i64 a1, .int .i64 a2, .int .i64 a3, .int .i64 d1, .int .i64 d2, .int .i64 d3, .int .i64 s, .slice (some ⟨b1, 0, none⟩) n c1, .slice (some ⟨b2, 0, none⟩) n c2, v, .int .i64 cp]) #[.int .i64 px, .int .i64 py, .int .i64 pz] s lo hi' w' (.slice ad kk cc) (.slice ad kk cc) kk (cellsP L) ∧ w'.heap[b11]? = some (.cells #[.int .i64 x, .int .i64 y, .int .i64 z, .int .i64 E, .int .i64 Lt, .int .i64 Wt] 63 (0, 0))) (fun _ w1 w2 => w1.grownBy w2 (some g)) (fun k => ([fun v_ w_ => v_ = .int .i64 t, fun v_ w_ => v_ = .pointer (some ⟨p7, 6, none⟩), fun v_ w_ => v_ = .pointer (some ⟨p7, 7, none⟩), fun v_ w_ => v_ = .slice (some ⟨b1, 0, none⟩) n c1, fun v_ w_ => v_ = .int .i64 (dd : Int), fun v_ w_ => v_ = .pointer (some ⟨p7, 6, none⟩), fun v_ w_ => v_ = .pointer (some ⟨p7, 6, none⟩), fun v_ w_ => v_ = .int .i64 s, fun v_ w_ => v_ = .int .i64 (q : Int), fun v_ w_ => v_ = .pointer (some ⟨b1, q, none⟩), fun v_ w_ => v_ = .int .i64 lq, fun v_ w_ => v_ = .int .i64 (t + lq), fun v_ w_ => v_ = .pointer (some ⟨g, 0, none⟩), fun v_ w_ => ∃ i_v : Int, v_ = .int .i64 i_v ∧ 0 ≤ i_v ∧ i_v < 6, fun v_ w_ => ∃ i_v : Int, v_ = .int .i64 (t + lq + i_v) ∧ 0 ≤ i_v ∧ i_v < 6, fun v_ w_ => v_ = .pointer (some ⟨b11, 3, none⟩), fun v_ w_ => True] : List (Value → World → Prop)).getD k (fun _ _ => True)) _ (fun σ => by simp only [Inv.putAll, List.foldl_cons, List.foldl_nil, Act.put, List.setIfInBounds_toArray, List.set_cons_zero, List.set_cons_succ]; rfl) (by kernel_rfl) (by kernel_rfl) ?_ hw0 ?_ ?_ 1 #[true, true, true, true, true, true, true, true, true, true, true, true, true, true, true, true, false] (by kernel_rfl) (by kernel_rfl) ?_
            · intro j k v w1 w2 hjk hv hr
              rcases k with _ | k
              · exact hv
              rcases k with _ | k
              · exact hv
              rcases k with _ | k
              · exact hv
              rcases k with _ | k
              · exact hv
              rcases k with _ | k
              · exact hv
              rcases k with _ | k
              · exact hv
              rcases k with _ | k
              · exact hv
              rcases k with _ | k
              · exact hv
              rcases k with _ | k
              · exact hv
              rcases k with _ | k
              · exact hv
              rcases k with _ | k
              · exact hv
              rcases k with _ | k
              · exact hv
              rcases k with _ | k
              · exact hv
              rcases k with _ | k
              · exact hv
              rcases k with _ | k
              · exact hv
              rcases k with _ | k
              · exact hv
              rcases k with _ | k
              · exact hv
              · exact hv
            · intro k t hl hd
              rcases k with _ | k
              · exact absurd hl (by decide +kernel)
              rcases k with _ | k
              · exact absurd hl (by decide +kernel)
              rcases k with _ | k
              · exact absurd hl (by decide +kernel)
              rcases k with _ | k
              · exact absurd hl (by decide +kernel)
              rcases k with _ | k
              · exact absurd hl (by decide +kernel)
              rcases k with _ | k
              · exact absurd hl (by decide +kernel)
              rcases k with _ | k
              · exact absurd hl (by decide +kernel)
              rcases k with _ | k
              · exact absurd hl (by decide +kernel)
              rcases k with _ | k
              · exact absurd hl (by decide +kernel)
              rcases k with _ | k
              · exact absurd hl (by decide +kernel)
              rcases k with _ | k
              · exact absurd hl (by decide +kernel)
              rcases k with _ | k
              · exact absurd hl (by decide +kernel)
              rcases k with _ | k
              · exact absurd hl (by decide +kernel)
              rcases k with _ | k
              · exact absurd hl (by decide +kernel)
              rcases k with _ | k
              · exact absurd hl (by decide +kernel)
              rcases k with _ | k
              · exact absurd hl (by decide +kernel)
              rcases k with _ | k
              · exact absurd hl (by decide +kernel)
              · simp at hd
            · show Inv.Steps _ _ _ _ _ _ _ _ [0, 1, 2, 3, 4, 5, 6, 7, 8, 9, 10, 11, 12, 13, 14, 15]
              refine Inv.Steps.go (by decide) (by rfl) (fun σ wx hw hd K hK => ?_) ?_
              · simp only [List.getElem_toArray, List.getElem_cons_zero, List.getElem_cons_succ, Act.put, List.setIfInBounds_toArray, List.set_cons_zero, List.set_cons_succ] at hK ⊢
                go_simp
                exact hK.out _ _ hw (World.grownBy.refl _ _) (rfl)
              refine Inv.Steps.go (by decide) (by rfl) (fun σ wx hw hd K hK => ?_) ?_
              · simp only [List.getElem_toArray, List.getElem_cons_zero, List.getElem_cons_succ, Act.put, List.setIfInBounds_toArray, List.set_cons_zero, List.set_cons_succ] at hK ⊢
                go_simp
                exact hK.out _ _ hw (World.grownBy.refl _ _) (rfl)
              refine Inv.Steps.go (by decide) (by rfl) (fun σ wx hw hd K hK => ?_) ?_
              · obtain e72 : (σ 72) = .pointer (some ⟨p7, 6, none⟩) := hd 1 (some 72) (by kernel_rfl) (by rfl)
                simp only [List.getElem_toArray, List.getElem_cons_zero, List.getElem_cons_succ, Act.put, List.setIfInBounds_toArray, List.set_cons_zero, List.set_cons_succ, e72] at hK ⊢
                go_simp
                exact hK.out _ _ hw (World.grownBy.refl _ _) (rfl)
              refine Inv.Steps.go (by decide) (by rfl) (fun σ wx hw hd K hK => ?_) ?_
              · obtain e73 : (σ 73) = .pointer (some ⟨p7, 7, none⟩) := hd 2 (some 73) (by kernel_rfl) (by rfl)
                simp only [List.getElem_toArray, List.getElem_cons_zero, List.getElem_cons_succ, Act.put, List.setIfInBounds_toArray, List.set_cons_zero, List.set_cons_succ, e73] at hK ⊢
                obtain ⟨f0, f1, f2, f3, f4, f5, f6, f7, f8, f9, f10⟩ := c11 hw.1.k7
                go_simp
                exact hK.out _ _ hw (World.grownBy.refl _ _) (rfl)
              refine Inv.Steps.go (by decide) (by rfl) (fun σ wx hw hd K hK => ?_) ?_
              · simp only [List.getElem_toArray, List.getElem_cons_zero, List.getElem_cons_succ, Act.put, List.setIfInBounds_toArray, List.set_cons_zero, List.set_cons_succ] at hK ⊢
                go_simp
                exact hK.out _ _ hw (World.grownBy.refl _ _) (rfl)
              refine Inv.Steps.go (by decide) (by rfl) (fun σ wx hw hd K hK => ?_) ?_
              · simp only [List.getElem_toArray, List.getElem_cons_zero, List.getElem_cons_succ, Act.put, List.setIfInBounds_toArray, List.set_cons_zero, List.set_cons_succ] at hK ⊢
                go_simp
                exact hK.out _ _ hw (World.grownBy.refl _ _) (rfl)
              refine Inv.Steps.go (by decide) (by rfl) (fun σ wx hw hd K hK => ?_) ?_
              · obtain e76 : (σ 76) = .pointer (some ⟨p7, 6, none⟩) := hd 5 (some 76) (by kernel_rfl) (by rfl)
                simp only [List.getElem_toArray, List.getElem_cons_zero, List.getElem_cons_succ, Act.put, List.setIfInBounds_toArray, List.set_cons_zero, List.set_cons_succ, e76] at hK ⊢
                go_simp
                exact hK.out _ _ hw (World.grownBy.refl _ _) (rfl)
              refine Inv.Steps.go (by decide) (by rfl) (fun σ wx hw hd K hK => ?_) ?_
              · obtain e77 : (σ 77) = .pointer (some ⟨p7, 6, none⟩) := hd 6 (some 77) (by kernel_rfl) (by rfl)
                simp only [List.getElem_toArray, List.getElem_cons_zero, List.getElem_cons_succ, Act.put, List.setIfInBounds_toArray, List.set_cons_zero, List.set_cons_succ, e77] at hK ⊢
                obtain ⟨f0, f1, f2, f3, f4, f5, f6, f7, f8, f9, f10⟩ := c11 hw.1.k7
                go_simp
                exact hK.out _ _ hw (World.grownBy.refl _ _) (rfl)
              refine Inv.Steps.go (by decide) (by rfl) (fun σ wx hw hd K hK => ?_) ?_
              · obtain e75 : (σ 75) = .int .i64 (dd : Int) := hd 4 (some 75) (by kernel_rfl) (by rfl)
                obtain e78 : (σ 78) = .int .i64 s := hd 7 (some 78) (by kernel_rfl) (by rfl)
                simp only [List.getElem_toArray, List.getElem_cons_zero, List.getElem_cons_succ, Act.put, List.setIfInBounds_toArray, List.set_cons_zero, List.set_cons_succ, e75, e78] at hK ⊢
                have hq1 := hq.out
                have n9q := hw.1.tv.tv.n9
                have s0 : ¬ s = 0 := by omega
                have qw : IntKind.i64.wrap (q : Int) = q := IntWalk.i64_in _ (by omega)
                go_simp
                try rw [qw]
                exact hK.out _ _ hw (World.grownBy.refl _ _) (rfl)
              refine Inv.Steps.go (by decide) (by rfl) (fun σ wx hw hd K hK => ?_) ?_
              · obtain e74 : (σ 74) = .slice (some ⟨b1, 0, none⟩) n c1 := hd 3 (some 74) (by kernel_rfl) (by rfl)
                obtain e79 : (σ 79) = .int .i64 (q : Int) := hd 8 (some 79) (by kernel_rfl) (by rfl)
                simp only [List.getElem_toArray, List.getElem_cons_zero, List.getElem_cons_succ, Act.put, List.setIfInBounds_toArray, List.set_cons_zero, List.set_cons_succ, e74, e79] at hK ⊢
                have hqn : (q : Int) < (n : Int) := by omega
                go_simp
                exact hK.out _ _ hw (World.grownBy.refl _ _) (rfl)
              refine Inv.Steps.go (by decide) (by rfl) (fun σ wx hw hd K hK => ?_) ?_
              · obtain e80 : (σ 80) = .pointer (some ⟨b1, q, none⟩) := hd 9 (some 80) (by kernel_rfl) (by rfl)
                simp only [List.getElem_toArray, List.getElem_cons_zero, List.getElem_cons_succ, Act.put, List.setIfInBounds_toArray, List.set_cons_zero, List.set_cons_succ, e80] at hK ⊢
                have hcell := LW.out wx hw.1.tv
                go_simp
                exact hK.out _ _ hw (World.grownBy.refl _ _) (rfl)
              refine Inv.Steps.go (by decide) (by rfl) (fun σ wx hw hd K hK => ?_) ?_
              · obtain e71 : (σ 71) = .int .i64 t := hd 0 (some 71) (by kernel_rfl) (by rfl)
                obtain e81 : (σ 81) = .int .i64 lq := hd 10 (some 81) (by kernel_rfl) (by rfl)
                simp only [List.getElem_toArray, List.getElem_cons_zero, List.getElem_cons_succ, Act.put, List.setIfInBounds_toArray, List.set_cons_zero, List.set_cons_succ, e71, e81] at hK ⊢
                have qw : IntKind.i64.wrap (t + lq) = t + lq := IntWalk.i64_in _ (by omega)
                go_simp
                try rw [qw]
                exact hK.out _ _ hw (World.grownBy.refl _ _) (rfl)
              refine Inv.Steps.go (by decide) (by rfl) (fun σ wx hw hd K hK => ?_) ?_
              · simp only [List.getElem_toArray, List.getElem_cons_zero, List.getElem_cons_succ, Act.put, List.setIfInBounds_toArray, List.set_cons_zero, List.set_cons_succ] at hK ⊢
                go_simp
                exact hK.out _ _ hw (World.grownBy.refl _ _) (rfl)
              refine Inv.Steps.go (by decide) (by rfl) (fun σ wx hw hd K hK => ?_) ?_
              · obtain e83 : (σ 83) = .pointer (some ⟨g, 0, none⟩) := hd 12 (some 83) (by kernel_rfl) (by rfl)
                simp only [List.getElem_toArray, List.getElem_cons_zero, List.getElem_cons_succ, Act.put, List.setIfInBounds_toArray, List.set_cons_zero, List.set_cons_succ, e83] at hK ⊢
                go_simp
                go_at_call 7
                refine (Src.n_any 6 hw.1.left.di (by omega) (by omega)).mono ?_
                rintro e w1 ⟨⟨iv, rfl, iv0, iv1⟩, hl⟩
                dsimp only
                exact hK.out _ _ ⟨hw.1.trans hl, lblk hl hw.2 hb11⟩ hl.far (⟨iv, rfl, iv0, iv1⟩)
              refine Inv.Steps.go (by decide) (by rfl) (fun σ wx hw hd K hK => ?_) ?_
              · obtain e82 : (σ 82) = .int .i64 (t + lq) := hd 11 (some 82) (by kernel_rfl) (by rfl)
                obtain ⟨iv, e84, iv0, iv1⟩ : ∃ i_v : Int, (σ 84) = .int .i64 i_v ∧ 0 ≤ i_v ∧ i_v < 6 := hd 13 (some 84) (by kernel_rfl) (by rfl)
                simp only [List.getElem_toArray, List.getElem_cons_zero, List.getElem_cons_succ, Act.put, List.setIfInBounds_toArray, List.set_cons_zero, List.set_cons_succ, e82, e84] at hK ⊢
                have qw : IntKind.i64.wrap (t + lq + iv) = t + lq + iv := IntWalk.i64_in _ (by omega)
                go_simp
                try rw [qw]
                exact hK.out _ _ hw (World.grownBy.refl _ _) (⟨iv, rfl, iv0, iv1⟩)
              refine Inv.Steps.go (by decide) (by rfl) (fun σ wx hw hd K hK => ?_) ?_
              · simp only [List.getElem_toArray, List.getElem_cons_zero, List.getElem_cons_succ, Act.put, List.setIfInBounds_toArray, List.set_cons_zero, List.set_cons_succ] at hK ⊢
                go_simp
                exact hK.out _ _ hw (World.grownBy.refl _ _) (rfl)
              exact Inv.Steps.nil
            · intro σ wx hw hd
              obtain ⟨iv, e85, iv0, iv1⟩ : ∃ i_v : Int, (σ 85) = .int .i64 (t + lq + i_v) ∧ 0 ≤ i_v ∧ i_v < 6 := hd 14 (some 85) (by rfl) (by rfl)
              obtain e86 : (σ 86) = .pointer (some ⟨b11, 3, none⟩) := hd 15 (some 86) (by rfl) (by rfl)
              simp only [e85, e86]
              have N9 := Lib.hid hw.2
              obtain ⟨x0, x1, x2, x3, x4, x5⟩ := cell6 N9.out
              obtain ⟨y0, y1, y2, y3, y4, y5⟩ := f6 N9.out
              refine Inv.one (i := 16) (by decide) (by kernel_rfl) (by rfl) (fun K hK => ?_)
              simp only [List.getElem_toArray, List.getElem_cons_zero, List.getElem_cons_succ, Act.put, List.setIfInBounds_toArray, List.set_cons_zero, List.set_cons_succ] at hK ⊢
              go_simp
              refine hK.out _ _ (Inv.done (by kernel_rfl) (NoPanic.normal ?_))
              clear hK K
              have E9 : ∃ E9, E9 = t + lq + iv := ⟨_, rfl⟩
              obtain ⟨E9, hE9⟩ := E9
              rw [← hE9]
              have M9 := Lib.hid (hw.1.set (o := 3) (.int .i64 E9) hb11p hne11)
              have N10 := Lib.hid (set6_3 N9.out (.int .i64 E9))
              have e90 : 0 ≤ E9 := by omega
              have e99 : E9 ≤ 1099511632776 := by omega
              clear hd e85 e86 x0 x1 x2 x3 x4 x5 y0 y1 y2 y3 y4 y5 N9 hE9 hw
              generalize wx.setCell ⟨b11, 3, none⟩ (.int .i64 E9) = w9 at *
              have M10 := M9
              have N12 := N10
              clear M9 N10
              go_wp2_with fail
              refine wp_region_noPanic ?_
              refine wp_region_any (by kernel_rfl) ?_
              have hw0 : PM W0 w g a len cap zs p7 p8 b1 b2 n (fun v => #[.int .i64 a1, .int .i64 a2, .int .i64 a3, .int .i64 d1, .int .i64 d2, .int .i64 d3, .int .i64 s, .slice (some ⟨b1, 0, none⟩) n c1, .slice (some ⟨b2, 0, none⟩) n c2, v, .int .i64 cp]) #[.int .i64 px, .int .i64 py, .int .i64 pz] s lo hi' w9.drew (.slice ad kk cc) (.slice ad kk cc) kk (cellsP L) ∧ w9.drew.heap[b11]? = some (.cells #[.int .i64 x, .int .i64 y, .int .i64 z, .int .i64 E9, .int .i64 Lt, .int .i64 Wt] 63 (0, 0)) := ⟨M10.out.below ((Below.refl _ _).drew), N12.out⟩
              refine Inv.wpAny_inv (fun k => k == 6) [87, 88, 89, 90, 91, 92] (fun w' => PM W0 w g a len cap zs p7 p8 b1 b2 n (fun v => #[.int .i64 a1, .int .i64 a2, .int .i64 a3, .int .i64 d1, .int .i64 d2, .int .i64 d3, .int .i64 s, .slice (some ⟨b1, 0, none⟩) n c1, .slice (some ⟨b2, 0, none⟩) n c2, v, .int .i64 cp]) #[.int .i64 px, .int .i64 py, .int .i64 pz] s lo hi' w' (.slice ad kk cc) (.slice ad kk cc) kk (cellsP L) ∧ w'.heap[b11]? = some (.cells #[.int .i64 x, .int .i64 y, .int .i64 z, .int .i64 E9, .int .i64 Lt, .int .i64 Wt] 63 (0, 0))) (fun _ w1 w2 => w1.grownBy w2 (some g)) (fun k => ([fun v_ w_ => v_ = .pointer (some ⟨b11, 3, none⟩), fun v_ w_ => v_ = .int .i64 E9, fun v_ w_ => v_ = .pointer (some ⟨g, 0, none⟩), fun v_ w_ => ∃ i_v : Int, v_ = .int .i64 i_v ∧ 0 ≤ i_v ∧ i_v < 8, fun v_ w_ => ∃ i_v : Int, v_ = .int .i64 (E9 + i_v) ∧ 0 ≤ i_v ∧ i_v < 8, fun v_ w_ => v_ = .pointer (some ⟨b11, 4, none⟩), fun v_ w_ => True] : List (Value → World → Prop)).getD k (fun _ _ => True)) _ (fun σ => by simp only [Inv.putAll, List.foldl_cons, List.foldl_nil, Act.put, List.setIfInBounds_toArray, List.set_cons_zero, List.set_cons_succ]; rfl) (by kernel_rfl) (by kernel_rfl) ?_ hw0 ?_ ?_ 1 #[true, true, true, true, true, true, false] (by kernel_rfl) (by kernel_rfl) ?_
              · intro j k v w1 w2 hjk hv hr
                rcases k with _ | k
                · exact hv
                rcases k with _ | k
                · exact hv
                rcases k with _ | k
                · exact hv
                rcases k with _ | k
                · exact hv
                rcases k with _ | k
                · exact hv
                rcases k with _ | k
                · exact hv
                rcases k with _ | k
                · exact hv
                · exact hv
              · intro k t hl hd
                rcases k with _ | k
                · exact absurd hl (by decide +kernel)
                rcases k with _ | k
                · exact absurd hl (by decide +kernel)
                rcases k with _ | k
                · exact absurd hl (by decide +kernel)
                rcases k with _ | k
                · exact absurd hl (by decide +kernel)
                rcases k with _ | k
                · exact absurd hl (by decide +kernel)
                rcases k with _ | k
                · exact absurd hl (by decide +kernel)
                rcases k with _ | k
                · exact absurd hl (by decide +kernel)
                · simp at hd
              · show Inv.Steps _ _ _ _ _ _ _ _ [0, 1, 2, 3, 4, 5]
                refine Inv.Steps.go (by decide) (by rfl) (fun σ wx hw hd K hK => ?_) ?_
                · simp only [List.getElem_toArray, List.getElem_cons_zero, List.getElem_cons_succ, Act.put, List.setIfInBounds_toArray, List.set_cons_zero, List.set_cons_succ] at hK ⊢
                  go_simp
                  exact hK.out _ _ hw (World.grownBy.refl _ _) (rfl)
                refine Inv.Steps.go (by decide) (by rfl) (fun σ wx hw hd K hK => ?_) ?_
                · obtain e87 : (σ 87) = .pointer (some ⟨b11, 3, none⟩) := hd 0 (some 87) (by kernel_rfl) (by rfl)
                  simp only [List.getElem_toArray, List.getElem_cons_zero, List.getElem_cons_succ, Act.put, List.setIfInBounds_toArray, List.set_cons_zero, List.set_cons_succ, e87] at hK ⊢
                  obtain ⟨x0, x1, x2, x3, x4, x5⟩ := cell6 hw.2
                  go_simp
                  exact hK.out _ _ hw (World.grownBy.refl _ _) (rfl)
                refine Inv.Steps.go (by decide) (by rfl) (fun σ wx hw hd K hK => ?_) ?_
                · simp only [List.getElem_toArray, List.getElem_cons_zero, List.getElem_cons_succ, Act.put, List.setIfInBounds_toArray, List.set_cons_zero, List.set_cons_succ] at hK ⊢
                  go_simp
                  exact hK.out _ _ hw (World.grownBy.refl _ _) (rfl)
                refine Inv.Steps.go (by decide) (by rfl) (fun σ wx hw hd K hK => ?_) ?_
                · obtain e89 : (σ 89) = .pointer (some ⟨g, 0, none⟩) := hd 2 (some 89) (by kernel_rfl) (by rfl)
                  simp only [List.getElem_toArray, List.getElem_cons_zero, List.getElem_cons_succ, Act.put, List.setIfInBounds_toArray, List.set_cons_zero, List.set_cons_succ, e89] at hK ⊢
                  go_simp
                  go_at_call 7
                  refine (Src.n_any 8 hw.1.left.di (by omega) (by omega)).mono ?_
                  rintro e w1 ⟨⟨jv, rfl, jv0, jv1⟩, hl⟩
                  dsimp only
                  exact hK.out _ _ ⟨hw.1.trans hl, lblk hl hw.2 hb11⟩ hl.far (⟨jv, rfl, jv0, jv1⟩)
                refine Inv.Steps.go (by decide) (by rfl) (fun σ wx hw hd K hK => ?_) ?_
                · obtain e88 : (σ 88) = .int .i64 E9 := hd 1 (some 88) (by kernel_rfl) (by rfl)
                  obtain ⟨jv, e90, jv0, jv1⟩ : ∃ i_v : Int, (σ 90) = .int .i64 i_v ∧ 0 ≤ i_v ∧ i_v < 8 := hd 3 (some 90) (by kernel_rfl) (by rfl)
                  simp only [List.getElem_toArray, List.getElem_cons_zero, List.getElem_cons_succ, Act.put, List.setIfInBounds_toArray, List.set_cons_zero, List.set_cons_succ, e88, e90] at hK ⊢
                  have qw : IntKind.i64.wrap (E9 + jv) = E9 + jv := IntWalk.i64_in _ (by omega)
                  go_simp
                  try rw [qw]
                  exact hK.out _ _ hw (World.grownBy.refl _ _) (⟨jv, rfl, jv0, jv1⟩)
                refine Inv.Steps.go (by decide) (by rfl) (fun σ wx hw hd K hK => ?_) ?_
                · simp only [List.getElem_toArray, List.getElem_cons_zero, List.getElem_cons_succ, Act.put, List.setIfInBounds_toArray, List.set_cons_zero, List.set_cons_succ] at hK ⊢
                  go_simp
                  exact hK.out _ _ hw (World.grownBy.refl _ _) (rfl)
                exact Inv.Steps.nil
              · intro σ wx hw hd
                obtain ⟨jv, e91, jv0, jv1⟩ : ∃ i_v : Int, (σ 91) = .int .i64 (E9 + i_v) ∧ 0 ≤ i_v ∧ i_v < 8 := hd 4 (some 91) (by rfl) (by rfl)
                obtain e92 : (σ 92) = .pointer (some ⟨b11, 4, none⟩) := hd 5 (some 92) (by rfl) (by rfl)
                simp only [e91, e92]
                have N9 := Lib.hid hw.2
                obtain ⟨x0, x1, x2, x3, x4, x5⟩ := cell6 N9.out
                obtain ⟨y0, y1, y2, y3, y4, y5⟩ := f6 N9.out
                refine Inv.one (i := 6) (by decide) (by kernel_rfl) (by rfl) (fun K hK => ?_)
                simp only [List.getElem_toArray, List.getElem_cons_zero, List.getElem_cons_succ, Act.put, List.setIfInBounds_toArray, List.set_cons_zero, List.set_cons_succ] at hK ⊢
                go_simp
                refine hK.out _ _ (Inv.done (by kernel_rfl) (NoPanic.normal ?_))
                clear hK K
                obtain ⟨L9, hL9⟩ : ∃ L9, L9 = E9 + jv := ⟨_, rfl⟩
                rw [← hL9]
                have M11 := Lib.hid (hw.1.set (o := 4) (.int .i64 L9) hb11p hne11)
                have N11 := Lib.hid (set6_4 N9.out (.int .i64 L9))
                have l90 : E9 ≤ L9 := by omega
                have l99 : L9 ≤ 1099511640000 := by omega
                clear hd e91 e92 x0 x1 x2 x3 x4 x5 y0 y1 y2 y3 y4 y5 N9 hL9 hw
                generalize wx.setCell ⟨b11, 4, none⟩ (.int .i64 L9) = w12 at *
                have zb := M11.out.own.lt
                obtain ⟨x0, x1, x2, x3, x4, x5⟩ := cell6 N11.out
                obtain ⟨f0, f1, f2, f3, f4, f5, f6', f7, f8, f9, f10⟩ := c11 M11.out.k7
                have Y6 : Hid (Below w12.heap.size w12 (w12.alloc (.cells #[.int .i64 x, .int .i64 y, .int .i64 z, .int .i64 E9, .int .i64 L9, .int .i64 Wt] 63))) := Lib.hid (new_block _)
                have NB := Lib.hid (World.news_of_block (heap_alloc_new w12 (.cells #[.int .i64 x, .int .i64 y, .int .i64 z, .int .i64 E9, .int .i64 L9, .int .i64 Wt] 63)))
                have MB := Lib.hid (M11.out.below Y6.out)
                have OB := Lib.hid MB.out.own
                have one : Hid (∀ u ∈ [Value.int .i64 x, .int .i64 y, .int .i64 z, .int .i64 E9, .int .i64 L9, .int .i64 Wt], u.oneCell' = true) := Lib.hid (by simp; exact ⟨rfl, rfl, rfl, rfl, rfl, rfl⟩)
                have m1 : Hid (kk + 1 ≤ maxLen) := Lib.hid (by unfold maxLen; omega)
                have m2 : Hid ((kk + 1) * 48 ≤ 140737488355328) := Lib.hid (by omega)
                have zp := (Array.getElem?_eq_some_iff.1 M11.out.k8).1
                have hsz : p8 + 1 ≤ (w12.alloc (.cells #[.int .i64 x, .int .i64 y, .int .i64 z, .int .i64 E9, .int .i64 L9, .int .i64 Wt] 63)).heap.size := by simp; omega
                go_wp2_with (at_builtin; (refine wpList_append_own _ rfl (.tmp 94) (.tmp 96) 34 rfl (p8 + 1) 63 i0 (.agg #[.int .i64 0, .int .i64 0, .int .i64 0, .int .i64 0, .int .i64 0, .int .i64 0]) 6 48 Try.underlying34 hi hz0 hz1 hz2 rfl (by decide) _ kk _ rfl OB.out ⟨w12.heap.size, 0, none⟩ 1 1 _ rfl rfl NB.out one.out m1.out m2.out hsz ?_; intro v' w13 ho hg _; have hg' : (w12.alloc (.cells #[.int .i64 x, .int .i64 y, .int .i64 z, .int .i64 E9, .int .i64 L9, .int .i64 Wt] 63)).grownBy w13 (Value.slice ad kk cc).ownBlock := hg; obtain ⟨ra, rm, rc, rfl, hrm⟩ := own_letter ho; have M13 := Lib.hid (MB.out.grow hg' (vo' := .slice ra rm rc) (no' := rm) (by have e1 := hrm.out; subst e1; exact ho)); obtain ⟨g0, g1, g2, g3, g4, g5, g6, g7, g8, g9, g10⟩ := c11 M13.out.k7; obtain ⟨u0, u1, u2, u3, u4, u5, u6, u7, u8, u9, u10⟩ := f11 M13.out.k7))
                have hrm2 : Hid (rm = nl + 1) := Lib.hid (by rw [hrm.out, hkk.out])
                have M14 := Lib.hid (by have h7 := M13.out.store7 ⟨_, _, _, _, _, _, _, _, _, _, fun _ => rfl⟩ (.slice ra rm rc); rw [← show cellsP (L ++ [⟨x, y, z, E9, L9, Wt⟩]) = _ from cellsP_snoc L ⟨x, y, z, E9, L9, Wt⟩] at h7; exact h7)
                clear ho hg hg' Y6 NB MB OB one m1 m2 hsz zp zb x0 x1 x2 x3 x4 x5 f0 f1 f2 f3 f4 f5 f6' f7 f8 f9 f10 g0 g1 g2 g3 g4 g5 g6 g7 g8 g9 g10 u0 u1 u2 u3 u4 u5 u6 u7 u8 u9 u10 M13 M11 N11
                go_wp2_with fail
                go_roundw
                case rel => exact ⟨m', nl + 1, ra, rm, rc, _, by go_num, by omega, by omega, hrm2, Lib.hid (by simp [hLl.out]), Lib.hid (ph_snoc HL.out ⟨by omega, by omega, by omega, by omega, by omega, by omega, by show (0 : Int) ≤ E9; omega, by show E9 ≤ L9; omega, by show L9 ≤ _; omega, by show (1 : Int) ≤ Wt; omega, by show Wt ≤ _; omega⟩), M14⟩
                case measure => simp [intOf]
      · obtain rfl : v4 = 0 := by omega
        have zb := M.out.own.lt
        obtain ⟨x0, x1, x2, x3, x4, x5⟩ := cell6 N.out
        obtain ⟨f0, f1, f2, f3, f4, f5, f6', f7, f8, f9, f10⟩ := c11 M.out.k7
        have Y6 : Hid (Below w12.heap.size w12 (w12.alloc (.cells #[.int .i64 x, .int .i64 y, .int .i64 z, .int .i64 E, .int .i64 Lt, .int .i64 Wt] 63))) := Lib.hid (new_block _)
        have NB := Lib.hid (World.news_of_block (heap_alloc_new w12 (.cells #[.int .i64 x, .int .i64 y, .int .i64 z, .int .i64 E, .int .i64 Lt, .int .i64 Wt] 63)))
        have MB := Lib.hid (M.out.below Y6.out)
        have OB := Lib.hid MB.out.own
        have one : Hid (∀ u ∈ [Value.int .i64 x, .int .i64 y, .int .i64 z, .int .i64 E, .int .i64 Lt, .int .i64 Wt], u.oneCell' = true) := Lib.hid (by simp; exact ⟨rfl, rfl, rfl, rfl, rfl, rfl⟩)
        have m1 : Hid (kk + 1 ≤ maxLen) := Lib.hid (by unfold maxLen; omega)
        have m2 : Hid ((kk + 1) * 48 ≤ 140737488355328) := Lib.hid (by omega)
        have zp := (Array.getElem?_eq_some_iff.1 M.out.k8).1
        have hsz : p8 + 1 ≤ (w12.alloc (.cells #[.int .i64 x, .int .i64 y, .int .i64 z, .int .i64 E, .int .i64 Lt, .int .i64 Wt] 63)).heap.size := by simp; omega
        go_wp2_with (at_builtin; (refine wpList_append_own _ rfl (.tmp 94) (.tmp 96) 34 rfl (p8 + 1) 63 i0 (.agg #[.int .i64 0, .int .i64 0, .int .i64 0, .int .i64 0, .int .i64 0, .int .i64 0]) 6 48 Try.underlying34 hi hz0 hz1 hz2 rfl (by decide) _ kk _ rfl OB.out ⟨w12.heap.size, 0, none⟩ 1 1 _ rfl rfl NB.out one.out m1.out m2.out hsz ?_; intro v' w13 ho hg _; have hg' : (w12.alloc (.cells #[.int .i64 x, .int .i64 y, .int .i64 z, .int .i64 E, .int .i64 Lt, .int .i64 Wt] 63)).grownBy w13 (Value.slice ad kk cc).ownBlock := hg; obtain ⟨ra, rm, rc, rfl, hrm⟩ := own_letter ho; have M13 := Lib.hid (MB.out.grow hg' (vo' := .slice ra rm rc) (no' := rm) (by have e1 := hrm.out; subst e1; exact ho)); obtain ⟨g0, g1, g2, g3, g4, g5, g6, g7, g8, g9, g10⟩ := c11 M13.out.k7; obtain ⟨u0, u1, u2, u3, u4, u5, u6, u7, u8, u9, u10⟩ := f11 M13.out.k7))
        have hrm2 : Hid (rm = nl + 1) := Lib.hid (by rw [hrm.out, hkk.out])
        have M14 := Lib.hid (by have h7 := M13.out.store7 ⟨_, _, _, _, _, _, _, _, _, _, fun _ => rfl⟩ (.slice ra rm rc); rw [← show cellsP (L ++ [⟨x, y, z, E, Lt, Wt⟩]) = _ from cellsP_snoc L ⟨x, y, z, E, Lt, Wt⟩] at h7; exact h7)
        clear ho hg hg' Y6 NB MB OB one m1 m2 hsz zp zb x0 x1 x2 x3 x4 x5 f0 f1 f2 f3 f4 f5 f6' f7 f8 f9 f10 g0 g1 g2 g3 g4 g5 g6 g7 g8 g9 g10 u0 u1 u2 u3 u4 u5 u6 u7 u8 u9 u10 M13 M N
        go_wp2_with fail
        go_roundw
        case rel => exact ⟨m', nl + 1, ra, rm, rc, _, by go_num, by omega, by omega, hrm2, Lib.hid (by simp [hLl.out]), Lib.hid (ph_snoc HL.out ⟨by omega, by omega, by omega, by omega, by omega, by omega, by show (0 : Int) ≤ E; omega, by show E ≤ Lt; omega, by show Lt ≤ _; omega, by show (1 : Int) ≤ Wt; omega, by show Wt ≤ _; omega⟩), M14⟩
        case measure => simp [intOf]
    · obtain rfl : m = 0 := by omega
      have zx := (Array.getElem?_eq_some_iff.1 M.out.k8).1
      obtain ⟨gp, cpp, hsl, pr, hle, hmx⟩ := own_slice (B := p8 + 1) (w := wr) (v := .slice ad kk cc) (l := L) (by have := M.out.own; rw [hkk.out, ← hLl.out] at this; unfold OwnP; rw [hkk.out, ← hLl.out]; exact this) (by rw [hLl.out]; omega)
      have hgB : p8 + 1 ≤ gp := by
        have := M.out.own.lt gp (by rw [hsl]; rfl)
        omega
      obtain ⟨rfl, hk2, rfl⟩ : ad = some ⟨gp, 0, none⟩ ∧ kk = L.length ∧ cc = cpp := by injection hsl with h1 h2 h3; exact ⟨h1, h2, h3⟩
      obtain ⟨f0, f1, f2, f3, f4, f5, f6', f7, f8, f9, f10⟩ := c11 M.out.k7
      obtain ⟨g0, g1, g2, g3, g4, g5, g6, g7, g8, g9, g10⟩ := c11 M.out.k0
      obtain ⟨u0, u1, u2, u3, u4, u5, u6, u7, u8, u9, u10⟩ := f11 M.out.k0
      have X0 := Lib.hid (st11 M.out.k0 (.int .i64 a1) (.int .i64 a2) (.int .i64 a3) (.int .i64 d1) (.int .i64 d2) (.int .i64 d3) (.int .i64 s) (.slice (some ⟨b1, 0, none⟩) n c1) (.slice (some ⟨b2, 0, none⟩) n c2) (.slice (some ⟨gp, 0, none⟩) kk cc) (.int .i64 cp))
      have XW := Lib.hid (below11 (g := w.heap.size) (Below.refl w.heap.size wr) (Nat.le_refl _) (.int .i64 a1) (.int .i64 a2) (.int .i64 a3) (.int .i64 d1) (.int .i64 d2) (.int .i64 d3) (.int .i64 s) (.slice (some ⟨b1, 0, none⟩) n c1) (.slice (some ⟨b2, 0, none⟩) n c2) (.slice (some ⟨gp, 0, none⟩) kk cc) (.int .i64 cp))
      have XL := Lib.hid (Src.Left.past H.out M.out.left XW.out)
      have XT := Lib.hid (show Bound.Wide (((((((((((wr.setCell ⟨w.heap.size, 0, none⟩ (.int .i64 a1)).setCell ⟨w.heap.size, 1, none⟩ (.int .i64 a2)).setCell ⟨w.heap.size, 2, none⟩ (.int .i64 a3)).setCell ⟨w.heap.size, 3, none⟩ (.int .i64 d1)).setCell ⟨w.heap.size, 4, none⟩ (.int .i64 d2)).setCell ⟨w.heap.size, 5, none⟩ (.int .i64 d3)).setCell ⟨w.heap.size, 6, none⟩ (.int .i64 s)).setCell ⟨w.heap.size, 7, none⟩ (.slice (some ⟨b1, 0, none⟩) n c1)).setCell ⟨w.heap.size, 8, none⟩ (.slice (some ⟨b2, 0, none⟩) n c2)).setCell ⟨w.heap.size, 9, none⟩ (.slice (some ⟨gp, 0, none⟩) kk cc)).setCell ⟨w.heap.size, 10, none⟩ (.int .i64 cp)) s b1 b2 n lo hi' from ⟨tv_kept M.out.tv.tv (heap11 wr (by have := M.out.m1; omega) (.int .i64 a1) (.int .i64 a2) (.int .i64 a3) (.int .i64 d1) (.int .i64 d2) (.int .i64 d3) (.int .i64 s) (.slice (some ⟨b1, 0, none⟩) n c1) (.slice (some ⟨b2, 0, none⟩) n c2) (.slice (some ⟨gp, 0, none⟩) kk cc) (.int .i64 cp)) (heap11 wr (by have := M.out.m2; omega) (.int .i64 a1) (.int .i64 a2) (.int .i64 a3) (.int .i64 d1) (.int .i64 d2) (.int .i64 d3) (.int .i64 s) (.slice (some ⟨b1, 0, none⟩) n c1) (.slice (some ⟨b2, 0, none⟩) n c2) (.slice (some ⟨gp, 0, none⟩) kk cc) (.int .i64 cp)) XW.out.size, M.out.tv.re⟩)
      have XP := Lib.hid (pr.kept (heap11 (g := w.heap.size) wr (by have := M.out.o7; have := M.out.o8; omega) (.int .i64 a1) (.int .i64 a2) (.int .i64 a3) (.int .i64 d1) (.int .i64 d2) (.int .i64 d3) (.int .i64 s) (.slice (some ⟨b1, 0, none⟩) n c1) (.slice (some ⟨b2, 0, none⟩) n c2) (.slice (some ⟨gp, 0, none⟩) kk cc) (.int .i64 cp)) XW.out.size)
      replace hk2 := Lib.hid hk2
      have om1 := M.out.m1
      have om2 := M.out.m2
      have oo7 := M.out.o7
      have oo8 := M.out.o8
      clear hsl
      go_wp2_with fail
      refine bodyPost_ret (results_cell_row rfl _ _ w.heap.size _ _ _ _ rfl X0.out rfl (by rfl) rfl) rfl ⟨⟨_, _, _, _, _, _, _, _, _, _, _, _, lo, hi', _, _, L, _, _, rfl, hk2.out, ?_⟩, XL.out⟩
      exact ⟨bv, s1, s2, s3, x0, x1, y0, y1, z0, z1, XT.out, om1, om2, cp0, cp9, by rw [hLl.out]; omega, by rw [hLl.out]; omega, HL.out, XP.out, by omega, hle, hmx⟩
end Mis
end Go.Proofs.Ytldgihlhioeipaa
