/- Validate, zonesOf, Zones, At, Bound. -/
import Derived.Test.YtldgihlhioeipaaMisB
import Derived.Test.YtldgihlhioeipaaBoundB
import Derived.Test.YtldgihlhioeipaaGeoK
set_option linter.unusedVariables false
set_option linter.unusedSimpArgs false
namespace Go.Proofs.Ytldgihlhioeipaa
open Go.RowKit
namespace Mis
theorem cell6 {w : World} {g : Nat} {a b c d e f : Value} {t : TypeId} (h : w.heap[g]? = some (.cells #[a, b, c, d, e, f] t (0, 0))) : w.cell? ⟨g, 0, none⟩ = some a ∧ w.cell? ⟨g, 1, none⟩ = some b ∧ w.cell? ⟨g, 2, none⟩ = some c ∧ w.cell? ⟨g, 3, none⟩ = some d ∧ w.cell? ⟨g, 4, none⟩ = some e ∧ w.cell? ⟨g, 5, none⟩ = some f :=
  ⟨cell_of_row w g 0 _ _ _ h, cell_of_row w g 1 _ _ _ h, cell_of_row w g 2 _ _ _ h, cell_of_row w g 3 _ _ _ h, cell_of_row w g 4 _ _ _ h, cell_of_row w g 5 _ _ _ h⟩
def ivB (w : World) (r : Ending) (w' : World) : Prop := (∃ u v : Int, r = .returned (.tuple #[.int .i64 u, .int .i64 v, .int .i64 0])) ∧ Below w.heap.size w w'
/-- What the functions ask of a problem: TT holds of the worlds in which the table stands. -/
structure Pk (TT : World → Prop) (a b c' d e f s : Int) (b1 b2 tn tc td : Nat) (cap : Int) (L : List Ph) : Prop where
  stab : ∀ w w', TT w → Below w.heap.size w w' → TT w'
  bv : Geo.BV a b c' d e f
  tab : ∀ w, TT w → Calls Try.prog 69 #[.agg #[.int .i64 s, .slice (some ⟨b1, 0, none⟩) tn tc, .slice (some ⟨b2, 0, none⟩) tn td]] w fun r w' => r = .returned (.int .i64 0) ∧ Below w.heap.size w w'
  n1 : 1 ≤ L.length
  n9 : L.length ≤ 64
  c0 : 1 ≤ cap
  c9 : cap ≤ 2000
  ph : ∀ (k : Nat) (q : Ph), L[k]? = some q → Bound.PhV q.x q.y q.z q.E q.L q.W
  iv : ∀ (k : Nat) (q : Ph), L[k]? = some q → ∀ w, TT w → Calls Try.prog 71 #[.agg #[.int .i64 s, .slice (some ⟨b1, 0, none⟩) tn tc, .slice (some ⟨b2, 0, none⟩) tn td], .agg #[.int .i64 a, .int .i64 b, .int .i64 c', .int .i64 d, .int .i64 e, .int .i64 f], .agg #[.int .i64 q.x, .int .i64 q.y, .int .i64 q.z]] w (ivB w)
set_option maxRecDepth 100000 in
set_option maxHeartbeats 8000000 in
theorem validate_any {TT : World → Prop} {w : World} {g c n : Nat} {L : List Ph} {a b c' d e f s : Int} {b1 b2 tn tc td : Nat} {cap : Int} (h : Pk TT a b c' d e f s b1 b2 tn tc td cap L) (ht : TT w) (hp : PhR w g L) (hn : n = L.length) (hc : n ≤ c) :
    Calls Try.prog 49 #[.agg #[.int .i64 a, .int .i64 b, .int .i64 c', .int .i64 d, .int .i64 e, .int .i64 f, .int .i64 s, .slice (some ⟨b1, 0, none⟩) tn tc, .slice (some ⟨b2, 0, none⟩) tn td, .slice (some ⟨g, 0, none⟩) n c, .int .i64 cap]] w fun r w' => r = .returned (.int .i64 0) ∧ Below w.heap.size w w' := by
  have H := Lib.hid h
  have HT := Lib.hid ht
  have HP := Lib.hid hp
  have n9 : n ≤ 64 := by rw [hn]; exact h.n9
  have n1 : 1 ≤ n := by rw [hn]; exact h.n1
  obtain ⟨c0, c9⟩ : 1 ≤ cap ∧ cap ≤ 2000 := ⟨h.c0, h.c9⟩
  have Hn := Lib.hid hn
  have B0 := Lib.hid (heap_alloc_new w (.cells #[.int .i64 a, .int .i64 b, .int .i64 c', .int .i64 d, .int .i64 e, .int .i64 f, .int .i64 s, .slice (some ⟨b1, 0, none⟩) tn tc, .slice (some ⟨b2, 0, none⟩) tn td, .slice (some ⟨g, 0, none⟩) n c, .int .i64 cap] 36))
  have W0 : Hid (Below w.heap.size w (w.alloc (.cells #[.int .i64 a, .int .i64 b, .int .i64 c', .int .i64 d, .int .i64 e, .int .i64 f, .int .i64 s, .slice (some ⟨b1, 0, none⟩) tn tc, .slice (some ⟨b2, 0, none⟩) tn td, .slice (some ⟨g, 0, none⟩) n c, .int .i64 cap] 36))) := Lib.hid (new_block _)
  have BV := Lib.hid (Geo.validBox_yes a b c' d e f h.bv)
  have TB := Lib.hid h.tab
  have dn : (n == 0) = false := by simp; omega
  have dn' : ((n : Int) == 0) = false := by rw [beq_eq_false_iff_ne]; omega
  clear h ht hp hn
  go_enter Try.func49, Try.ntmps49
  go_wp2_with fail
  with_reducible refine (BV.out _).mono ?_
  rintro r w1 ⟨rfl, hb1⟩
  replace B0 := Lib.hid (hb hb1 B0.out)
  replace W0 := Lib.hid (Buf.then_ W0.out hb1)
  clear hb1
  obtain ⟨e0, e1, e2, e3, e4, e5, e6, e7, e8, e9, e10⟩ := c11 B0.out
  go_wp2_with fail
  with_reducible refine (TB.out _ (H.out.stab _ _ HT.out W0.out)).mono ?_
  rintro r w2 ⟨rfl, hb1⟩
  replace B0 := Lib.hid (hb hb1 B0.out)
  replace W0 := Lib.hid (Buf.then_ W0.out hb1)
  clear hb1 e0 e1 e2 e3 e4 e5 e6 e7 e8 e9 e10
  obtain ⟨e0, e1, e2, e3, e4, e5, e6, e7, e8, e9, e10⟩ := c11 B0.out
  go_wp2_with fail
  clear e0 e1 e2 e3 e4 e5 e6 e7 e8 e9 e10
  go_loopw [38] (fun i wr => ∃ k : Nat, k ≤ n ∧ i = .int .i64 k ∧ Hid (Below w.heap.size w wr) ∧ Hid (wr.heap[w.heap.size]? = some (.cells #[.int .i64 a, .int .i64 b, .int .i64 c', .int .i64 d, .int .i64 e, .int .i64 f, .int .i64 s, .slice (some ⟨b1, 0, none⟩) tn tc, .slice (some ⟨b2, 0, none⟩) tn td, .slice (some ⟨g, 0, none⟩) n c, .int .i64 cap] 36 (0, 0)))) (fun i _ => n - (intOf i).toNat)
  case atStart => exact ⟨0, Nat.zero_le _, rfl, W0, B0⟩
  case round =>
    clear W0 B0
    obtain ⟨k, hk, rfl, W0, B0⟩ := hrel
    by_cases hlt : k < n
    · have hlt' : (k : Int) < n := by omega
      obtain ⟨q, hq⟩ : ∃ q, L[k]? = some q := ⟨L[k]'(by rw [← Hn.out]; exact hlt), List.getElem?_eq_getElem _⟩
      obtain ⟨x0, x1, x2, x3, x4, x5⟩ := (HP.out.below W0.out).2 k _ hq
      have PV := Lib.hid (Bound.validPhase_yes _ _ _ _ _ _ (H.out.ph k q hq))
      have IV := Lib.hid (H.out.iv k q hq)
      obtain ⟨qx, qy, qz, qE, qL, qW⟩ := q
      dsimp only at x0 x1 x2 x3 x4 x5
      obtain ⟨w3, hw3⟩ : ∃ w3, w3 = wr.alloc (.cells #[.int .i64 qx, .int .i64 qy, .int .i64 qz, .int .i64 qE, .int .i64 qL, .int .i64 qW] 63) := ⟨_, rfl⟩
      have Y3 : Hid (Below wr.heap.size wr w3) := Lib.hid (by rw [hw3]; exact new_block _)
      have N3 := Lib.hid (show w3.heap[wr.heap.size]? = some (.cells #[.int .i64 qx, .int .i64 qy, .int .i64 qz, .int .i64 qE, .int .i64 qL, .int .i64 qW] 63 (0, 0)) by rw [hw3]; exact heap_alloc_new wr _)
      replace hw3 := Lib.hid hw3
      replace hq := Lib.hid hq
      go_upto_region 15 with fail
      rw [← hw3.out]
      clear hw3 x0 x1 x2 x3 x4 x5
      replace B0 := Lib.hid (hb Y3.out B0.out)
      replace W0 := Lib.hid (Buf.then_ W0.out Y3.out)
      obtain ⟨y0, y1, y2, y3, y4, y5⟩ := cell6 N3.out
      go_wp2_with fail
      with_reducible refine (PV.out _).mono ?_
      rintro r w4 ⟨rfl, hb1⟩
      replace B0 := Lib.hid (hb hb1 B0.out)
      replace N3 := Lib.hid (hb hb1 N3.out)
      replace W0 := Lib.hid (Buf.then_ W0.out hb1)
      clear hb1 y0 y1 y2 y3 y4 y5 Y3
      obtain ⟨y0, y1, y2, y3, y4, y5⟩ := cell6 N3.out
      obtain ⟨e0, e1, e2, e3, e4, e5, e6, e7, e8, e9, e10⟩ := c11 B0.out
      go_wp2_with fail
      with_reducible refine (IV.out _ (H.out.stab _ _ HT.out W0.out)).mono ?_
      rintro r w5 ⟨⟨u, v, rfl⟩, hb1⟩
      replace B0 := Lib.hid (hb hb1 B0.out)
      replace W0 := Lib.hid (Buf.then_ W0.out hb1)
      clear hb1 y0 y1 y2 y3 y4 y5 e0 e1 e2 e3 e4 e5 e6 e7 e8 e9 e10
      go_wp2_with fail
      go_roundw
      case rel => exact ⟨k + 1, by omega, by go_num, W0, B0⟩
      case measure => simp [intOf]; omega
    · obtain rfl : k = n := by omega
      go_wp2_with fail
      go_ret
      exact ⟨rfl, W0.out⟩
set_option maxRecDepth 100000 in
set_option maxHeartbeats 8000000 in
theorem zonesOf_any {TT : World → Prop} {w : World} {g c n : Nat} {L : List Ph} {a b c' d e f s : Int} {b1 b2 tn tc td : Nat} {cap : Int} (h : Pk TT a b c' d e f s b1 b2 tn tc td cap L) (ht : TT w) (hp : PhR w g L) (hn : n = L.length) (hc : n ≤ c) (p1 p2 p3 q1 q2 q3 : Int) (zf : Ph → Int × Int)
    (hz : ∀ (k : Nat) (q : Ph), L[k]? = some q → ∀ w, TT w → Calls Try.prog 73 #[.agg #[.int .i64 s, .slice (some ⟨b1, 0, none⟩) tn tc, .slice (some ⟨b2, 0, none⟩) tn td], .agg #[.int .i64 p1, .int .i64 p2, .int .i64 p3, .int .i64 q1, .int .i64 q2, .int .i64 q3], .agg #[.int .i64 q.x, .int .i64 q.y, .int .i64 q.z, .int .i64 q.E, .int .i64 q.L, .int .i64 q.W]] w fun r w' => r = .returned (.tuple #[.agg #[.int .i64 (zf q).1, .int .i64 (zf q).2], .int .i64 0]) ∧ Below w.heap.size w w') :
    Calls Try.prog 56 #[.agg #[.int .i64 a, .int .i64 b, .int .i64 c', .int .i64 d, .int .i64 e, .int .i64 f, .int .i64 s, .slice (some ⟨b1, 0, none⟩) tn tc, .slice (some ⟨b2, 0, none⟩) tn td, .slice (some ⟨g, 0, none⟩) n c, .int .i64 cap], .agg #[.int .i64 p1, .int .i64 p2, .int .i64 p3, .int .i64 q1, .int .i64 q2, .int .i64 q3]] w fun r w' => (∃ v, r = .returned (.tuple #[v, .int .i64 0]) ∧ OwnZ w' w.heap.size v (L.map zf)) ∧ Below w.heap.size w w' := by
  obtain ⟨i0, hi, hz0, hz1, hz2⟩ : ∃ i, Try.prog.info? 100 = some i ∧ i.zero = some (.agg #[.int .i64 0, .int .i64 0]) ∧ i.size = 2 ∧ i.bytes = 16 := ⟨_, rfl, by kernel_rfl, by kernel_rfl, by kernel_rfl⟩
  have H := Lib.hid h
  have HT := Lib.hid ht
  have HP := Lib.hid hp
  have HZ := Lib.hid hz
  have n9 : n ≤ 64 := by rw [hn]; exact h.n9
  have n1 : 1 ≤ n := by rw [hn]; exact h.n1
  have Hn := Lib.hid hn
  obtain ⟨w0, hw0⟩ : ∃ w0, w0 = (w.alloc (.cells #[.int .i64 a, .int .i64 b, .int .i64 c', .int .i64 d, .int .i64 e, .int .i64 f, .int .i64 s, .slice (some ⟨b1, 0, none⟩) tn tc, .slice (some ⟨b2, 0, none⟩) tn td, .slice (some ⟨g, 0, none⟩) n c, .int .i64 cap] 36)).alloc (.cells #[.int .i64 p1, .int .i64 p2, .int .i64 p3, .int .i64 q1, .int .i64 q2, .int .i64 q3] 26) := ⟨_, rfl⟩
  have e1 : (w.alloc (.cells #[.int .i64 a, .int .i64 b, .int .i64 c', .int .i64 d, .int .i64 e, .int .i64 f, .int .i64 s, .slice (some ⟨b1, 0, none⟩) tn tc, .slice (some ⟨b2, 0, none⟩) tn td, .slice (some ⟨g, 0, none⟩) n c, .int .i64 cap] 36)).heap.size = w.heap.size + 1 := by simp
  have W0 := Lib.hid (show Below w.heap.size w w0 by rw [hw0]; exact (new_block _).alloc (by simp) _)
  have B0 := Lib.hid (show w0.heap[w.heap.size]? = some (.cells #[.int .i64 a, .int .i64 b, .int .i64 c', .int .i64 d, .int .i64 e, .int .i64 f, .int .i64 s, .slice (some ⟨b1, 0, none⟩) tn tc, .slice (some ⟨b2, 0, none⟩) tn td, .slice (some ⟨g, 0, none⟩) n c, .int .i64 cap] 36 (0, 0)) by rw [hw0]; exact (heap_alloc_old _ _ (by simp)).trans (heap_alloc_new w _))
  have B1 := Lib.hid (show w0.heap[w.heap.size + 1]? = some (.cells #[.int .i64 p1, .int .i64 p2, .int .i64 p3, .int .i64 q1, .int .i64 q2, .int .i64 q3] 26 (0, 0)) by rw [hw0, ← e1]; exact heap_alloc_new _ _)
  have z0 : w0.heap.size = w.heap.size + 2 := by rw [hw0]; simp
  have mk1 : Hid (i0.bytes * n ≤ 281474976710656) := Lib.hid (by rw [hz2]; omega)
  have mk2 : Hid (n ≤ maxLen) := Lib.hid (by unfold maxLen; omega)
  have mk3 : w.heap.size + 2 ≤ w0.heap.size := by omega
  clear h ht hp hn hz
  go_enter Try.func56, Try.ntmps56
  go_upto_region 1 with fail
  clear e1
  rw [← hw0]
  clear hw0
  obtain ⟨e0, e1, e2, e3, e4, e5, e6, e7, e8, e9, e10⟩ := c11 B0.out
  go_upto_region 2 with (refine wpList_make_own _ rfl _ _ 76 rfl (w.heap.size + 2) 100 i0 (.agg #[.int .i64 0, .int .i64 0]) 2 Try.underlying76 hi hz0 hz1 .i64 .i64 _ n rfl rfl rfl mk1.out mk2.out mk3 ?_; intro w1 O1 g1)
  clear e0 e1 e2 e3 e4 e5 e6 e7 e8 e9 e10
  replace B0 := Lib.hid ((g1.block _ (by omega) (fun h => by cases h)).trans B0.out)
  replace B1 := Lib.hid ((g1.block _ (by omega) (fun h => by cases h)).trans B1.out)
  replace W0 := Lib.hid (W0.out.grown g1 (by omega) (fun k hk => by cases hk))
  rw [z0] at O1
  replace O1 := Lib.hid O1
  clear g1 mk1 mk2 mk3 z0
  obtain ⟨e0, e1, e2, e3, e4, e5, e6, e7, e8, e9, e10⟩ := c11 B0.out
  go_wp2_with fail
  clear e0 e1 e2 e3 e4 e5 e6 e7 e8 e9 e10
  go_loopw [18, 6] (fun i u wr => ∃ (k : Nat) (ad : Option Addr) (kk cc : Nat), k ≤ n ∧ i = .int .i64 k ∧ u = .slice ad kk cc ∧ Hid (kk = k) ∧ Hid (wr.ownsRow (w.heap.size + 2) 100 2 (.slice ad kk cc) kk (cellsZ ((L.take k).map zf))) ∧ Hid (Below w.heap.size w wr) ∧ Hid (wr.heap[w.heap.size]? = some (.cells #[.int .i64 a, .int .i64 b, .int .i64 c', .int .i64 d, .int .i64 e, .int .i64 f, .int .i64 s, .slice (some ⟨b1, 0, none⟩) tn tc, .slice (some ⟨b2, 0, none⟩) tn td, .slice (some ⟨g, 0, none⟩) n c, .int .i64 cap] 36 (0, 0))) ∧ Hid (wr.heap[w.heap.size + 1]? = some (.cells #[.int .i64 p1, .int .i64 p2, .int .i64 p3, .int .i64 q1, .int .i64 q2, .int .i64 q3] 26 (0, 0)))) (fun i _ _ => n - (intOf i).toNat)
  case atStart => exact ⟨0, _, 0, _, Nat.zero_le _, rfl, rfl, Lib.hid rfl, Lib.hid (by simpa [cellsZ] using O1.out), W0, B0, B1⟩
  case round =>
    clear O1 W0 B0 B1
    obtain ⟨k, ad, kk, cc, hk, rfl, rfl, hkk, O, W0, B0, B1⟩ := hrel
    by_cases hlt : k < n
    · have hlt' : (k : Int) < n := by omega
      have hk9 : kk ≤ 64 := by rw [hkk.out]; omega
      obtain ⟨q, hq⟩ : ∃ q, L[k]? = some q := ⟨L[k]'(by rw [← Hn.out]; exact hlt), List.getElem?_eq_getElem _⟩
      obtain ⟨x0, x1, x2, x3, x4, x5⟩ := (HP.out.below W0.out).2 k _ hq
      have ZC := Lib.hid (HZ.out k q hq)
      have hsn : Hid (cellsZ ((L.take (k + 1)).map zf) = cellsZ ((L.take k).map zf) ++ [.int .i64 (zf q).1, .int .i64 (zf q).2]) := Lib.hid (by
        obtain ⟨hk', rfl⟩ := List.getElem?_eq_some_iff.1 hq
        rw [List.take_succ_eq_append_getElem hk', List.map_append, ← cellsZ_snoc]; rfl)
      generalize zf q = zq at ZC hsn
      obtain ⟨z1, z2⟩ := zq
      obtain ⟨qx, qy, qz, qE, qL, qW⟩ := q
      dsimp only at x0 x1 x2 x3 x4 x5
      obtain ⟨w3, hw3⟩ : ∃ w3, w3 = wr.alloc (.cells #[.int .i64 qx, .int .i64 qy, .int .i64 qz, .int .i64 qE, .int .i64 qL, .int .i64 qW] 63) := ⟨_, rfl⟩
      have Y3 : Hid (Below wr.heap.size wr w3) := Lib.hid (by rw [hw3]; exact new_block _)
      have N3 := Lib.hid (show w3.heap[wr.heap.size]? = some (.cells #[.int .i64 qx, .int .i64 qy, .int .i64 qz, .int .i64 qE, .int .i64 qL, .int .i64 qW] 63 (0, 0)) by rw [hw3]; exact heap_alloc_new wr _)
      replace hw3 := Lib.hid hw3
      replace hq := Lib.hid hq
      go_upto_region 5 with fail
      rw [← hw3.out]
      clear hw3 x0 x1 x2 x3 x4 x5
      replace B0 := Lib.hid (hb Y3.out B0.out)
      replace B1 := Lib.hid (hb Y3.out B1.out)
      replace O := Lib.hid (own_below O.out Y3.out)
      replace W0 := Lib.hid (Buf.then_ W0.out Y3.out)
      obtain ⟨y0, y1, y2, y3, y4, y5⟩ := cell6 N3.out
      obtain ⟨v0, v1, v2, v3, v4, v5⟩ := cell6 B1.out
      obtain ⟨e0, e1, e2, e3, e4, e5, e6, e7, e8, e9, e10⟩ := c11 B0.out
      go_wp2_with fail
      with_reducible refine (ZC.out _ (H.out.stab _ _ HT.out W0.out)).mono ?_
      rintro r w4 ⟨rfl, hb1⟩
      dsimp only
      replace B0 := Lib.hid (hb hb1 B0.out)
      replace B1 := Lib.hid (hb hb1 B1.out)
      replace O := Lib.hid (own_below O.out hb1)
      replace W0 := Lib.hid (Buf.then_ W0.out hb1)
      clear hb1 y0 y1 y2 y3 y4 y5 v0 v1 v2 v3 v4 v5 e0 e1 e2 e3 e4 e5 e6 e7 e8 e9 e10 Y3 N3
      obtain ⟨w5, hw5⟩ : ∃ w5, w5 = w4.alloc (.cells #[.int .i64 z1, .int .i64 z2] 100) := ⟨_, rfl⟩
      have Y5 : Hid (Below w4.heap.size w4 w5) := Lib.hid (by rw [hw5]; exact new_block _)
      have N5 := Lib.hid (show w5.heap[w4.heap.size]? = some (.cells #[.int .i64 z1, .int .i64 z2] 100 (0, 0)) by rw [hw5]; exact heap_alloc_new w4 _)
      replace hw5 := Lib.hid hw5
      go_upto_region 6 with fail
      rw [← hw5.out]
      clear hw5
      replace B0 := Lib.hid (hb Y5.out B0.out)
      replace B1 := Lib.hid (hb Y5.out B1.out)
      replace O := Lib.hid (own_below O.out Y5.out)
      replace W0 := Lib.hid (Buf.then_ W0.out Y5.out)
      obtain ⟨n0, n1'⟩ := cell2 N5.out
      have Y6 : Hid (Below w5.heap.size w5 (w5.alloc (.cells #[.int .i64 z1, .int .i64 z2] 100))) := Lib.hid (new_block _)
      have NB := Lib.hid (World.news_of_block (heap_alloc_new w5 (.cells #[.int .i64 z1, .int .i64 z2] 100)))
      have OB := Lib.hid (own_below O.out Y6.out)
      have one : Hid (∀ u ∈ [Value.int .i64 z1, .int .i64 z2], u.oneCell' = true) := Lib.hid (by simp; exact ⟨rfl, rfl⟩)
      have m1 : Hid (kk + 1 ≤ maxLen) := Lib.hid (by unfold maxLen; omega)
      have m2 : Hid ((kk + 1) * 16 ≤ 140737488355328) := Lib.hid (by omega)
      have zb := (Array.getElem?_eq_some_iff.1 B1.out).1
      have hsz : w.heap.size + 2 ≤ (w5.alloc (.cells #[.int .i64 z1, .int .i64 z2] 100)).heap.size := by simp; omega
      go_wp2_with (at_builtin; (refine wpList_append_own _ rfl (.tmp 33) (.tmp 35) 76 rfl (w.heap.size + 2) 100 i0 (.agg #[.int .i64 0, .int .i64 0]) 2 16 Try.underlying76 hi hz0 hz1 hz2 rfl (by decide) _ kk _ rfl OB.out ⟨w5.heap.size, 0, none⟩ 1 1 _ rfl rfl NB.out one.out m1.out m2.out hsz ?_; intro v' w6 ho hg _))
      have hg' : (w5.alloc (.cells #[.int .i64 z1, .int .i64 z2] 100)).grownBy w6 (Value.slice ad kk cc).ownBlock := hg
      have B06 := Lib.hid ((hg'.block w.heap.size (by simp; omega) (fun he => own_ty OB.out (hb Y6.out B0.out) (by decide) he.symm)).trans (hb Y6.out B0.out))
      have B16 := Lib.hid ((hg'.block (w.heap.size + 1) (by simp; omega) (fun he => own_ty OB.out (hb Y6.out B1.out) (by decide) he.symm)).trans (hb Y6.out B1.out))
      have W6 := Lib.hid ((Buf.then_ W0.out Y6.out).grown hg' (by omega) fun q hq => by have := (OB.out.lt q hq).1; omega)
      obtain ⟨ra, rm, rc, rfl, hrm⟩ := own_letter ho
      have hrm2 : Hid (rm = k + 1) := Lib.hid (by rw [hrm.out, hkk.out])
      have O6 : Hid (w6.ownsRow (w.heap.size + 2) 100 2 (.slice ra rm rc) rm (cellsZ ((L.take (k + 1)).map zf))) := Lib.hid (by
        have e1 := hrm.out
        subst e1
        rw [hsn.out]
        simpa using ho)
      clear ho hg hg' Y5 Y6 NB OB one m1 m2 hsz n0 n1' hrm zb O
      go_roundw
      case rel => exact ⟨k + 1, ra, rm, rc, by omega, by go_num, rfl, hrm2, O6, W6, B06, B16⟩
      case measure => simp [intOf]; omega
    · obtain rfl : k = n := by omega
      have hfull : L.take k = L := List.take_of_length_le (by rw [← Hn.out]; exact Nat.le_refl _)
      rw [hfull] at O
      go_wp2_with fail
      go_ret2
      refine ⟨⟨_, rfl, ?_⟩, W0.out⟩
      have h9 := O.out
      have e9 : kk = (L.map zf).length := by rw [hkk.out, List.length_map, ← Hn.out]
      unfold OwnZ
      rw [← e9]
      exact own_mono h9 (by omega)
set_option maxRecDepth 100000 in
set_option maxHeartbeats 8000000 in
theorem zones_any {TT : World → Prop} {w : World} {g c n : Nat} {L : List Ph} {a b c' d e f s : Int} {b1 b2 tn tc td : Nat} {cap : Int} (h : Pk TT a b c' d e f s b1 b2 tn tc td cap L) (ht : TT w) (hp : PhR w g L) (hn : n = L.length) (hc : n ≤ c) (p1 p2 p3 q1 q2 q3 : Int) (zf : Ph → Int × Int) (hbv : Geo.BV p1 p2 p3 q1 q2 q3) (hin : Geo.wiB p1 p2 p3 q1 q2 q3 a b c' d e f = true)
    (hz : ∀ (k : Nat) (q : Ph), L[k]? = some q → ∀ w, TT w → Calls Try.prog 73 #[.agg #[.int .i64 s, .slice (some ⟨b1, 0, none⟩) tn tc, .slice (some ⟨b2, 0, none⟩) tn td], .agg #[.int .i64 p1, .int .i64 p2, .int .i64 p3, .int .i64 q1, .int .i64 q2, .int .i64 q3], .agg #[.int .i64 q.x, .int .i64 q.y, .int .i64 q.z, .int .i64 q.E, .int .i64 q.L, .int .i64 q.W]] w fun r w' => r = .returned (.tuple #[.agg #[.int .i64 (zf q).1, .int .i64 (zf q).2], .int .i64 0]) ∧ Below w.heap.size w w') :
    Calls Try.prog 33 #[.agg #[.int .i64 a, .int .i64 b, .int .i64 c', .int .i64 d, .int .i64 e, .int .i64 f, .int .i64 s, .slice (some ⟨b1, 0, none⟩) tn tc, .slice (some ⟨b2, 0, none⟩) tn td, .slice (some ⟨g, 0, none⟩) n c, .int .i64 cap], .agg #[.int .i64 p1, .int .i64 p2, .int .i64 p3, .int .i64 q1, .int .i64 q2, .int .i64 q3]] w fun r w' => (∃ v, r = .returned (.tuple #[v, .int .i64 0]) ∧ OwnZ w' w.heap.size v (L.map zf)) ∧ Below w.heap.size w w' := by
  have H := Lib.hid h
  have HT := Lib.hid ht
  have HP := Lib.hid hp
  have ZO := Lib.hid fun w h1 h2 => zonesOf_any (w := w) (g := g) h h1 h2 hn hc p1 p2 p3 q1 q2 q3 zf hz
  have VA := Lib.hid fun w h1 h2 => validate_any (w := w) (g := g) h h1 h2 hn hc
  have WI := Lib.hid fun w => Geo.within_any p1 p2 p3 q1 q2 q3 a b c' d e f hbv h.bv w
  rw [hin] at WI
  obtain ⟨w0, hw0⟩ : ∃ w0, w0 = (w.alloc (.cells #[.int .i64 a, .int .i64 b, .int .i64 c', .int .i64 d, .int .i64 e, .int .i64 f, .int .i64 s, .slice (some ⟨b1, 0, none⟩) tn tc, .slice (some ⟨b2, 0, none⟩) tn td, .slice (some ⟨g, 0, none⟩) n c, .int .i64 cap] 36)).alloc (.cells #[.int .i64 p1, .int .i64 p2, .int .i64 p3, .int .i64 q1, .int .i64 q2, .int .i64 q3] 26) := ⟨_, rfl⟩
  have e1 : (w.alloc (.cells #[.int .i64 a, .int .i64 b, .int .i64 c', .int .i64 d, .int .i64 e, .int .i64 f, .int .i64 s, .slice (some ⟨b1, 0, none⟩) tn tc, .slice (some ⟨b2, 0, none⟩) tn td, .slice (some ⟨g, 0, none⟩) n c, .int .i64 cap] 36)).heap.size = w.heap.size + 1 := by simp
  have W0 := Lib.hid (show Below w.heap.size w w0 by rw [hw0]; exact (new_block _).alloc (by simp) _)
  have B0 := Lib.hid (show w0.heap[w.heap.size]? = some (.cells #[.int .i64 a, .int .i64 b, .int .i64 c', .int .i64 d, .int .i64 e, .int .i64 f, .int .i64 s, .slice (some ⟨b1, 0, none⟩) tn tc, .slice (some ⟨b2, 0, none⟩) tn td, .slice (some ⟨g, 0, none⟩) n c, .int .i64 cap] 36 (0, 0)) by rw [hw0]; exact (heap_alloc_old _ _ (by simp)).trans (heap_alloc_new w _))
  have B1 := Lib.hid (show w0.heap[w.heap.size + 1]? = some (.cells #[.int .i64 p1, .int .i64 p2, .int .i64 p3, .int .i64 q1, .int .i64 q2, .int .i64 q3] 26 (0, 0)) by rw [hw0, ← e1]; exact heap_alloc_new _ _)
  clear h ht hp hn hz hbv hin hc
  go_enter Try.func33, Try.ntmps33
  go_upto_region 1 with fail
  clear e1
  rw [← hw0]
  clear hw0
  obtain ⟨e0, e1, e2, e3, e4, e5, e6, e7, e8, e9, e10⟩ := c11 B0.out
  go_wp2_with fail
  with_reducible refine (VA.out _ (H.out.stab _ _ HT.out W0.out) (HP.out.below W0.out)).mono ?_
  rintro r w1 ⟨rfl, hb1⟩
  replace B0 := Lib.hid (hb hb1 B0.out)
  replace B1 := Lib.hid (hb hb1 B1.out)
  replace W0 := Lib.hid (Buf.then_ W0.out hb1)
  clear hb1 e0 e1 e2 e3 e4 e5 e6 e7 e8 e9 e10
  obtain ⟨e0, e1, e2, e3, e4, e5, e6, e7, e8, e9, e10⟩ := c11 B0.out
  obtain ⟨v0, v1, v2, v3, v4, v5⟩ := cell6 B1.out
  go_wp2_with fail
  with_reducible refine (WI.out _).mono ?_
  rintro r w2 ⟨rfl, hb1⟩
  replace B0 := Lib.hid (hb hb1 B0.out)
  replace B1 := Lib.hid (hb hb1 B1.out)
  replace W0 := Lib.hid (Buf.then_ W0.out hb1)
  clear hb1 e0 e1 e2 e3 e4 e5 e6 e7 e8 e9 e10 v0 v1 v2 v3 v4 v5
  obtain ⟨e0, e1, e2, e3, e4, e5, e6, e7, e8, e9, e10⟩ := c11 B0.out
  obtain ⟨v0, v1, v2, v3, v4, v5⟩ := cell6 B1.out
  go_wp2_with fail
  with_reducible refine (ZO.out _ (H.out.stab _ _ HT.out W0.out) (HP.out.below W0.out)).mono ?_
  rintro r w3 ⟨⟨v, rfl, ho⟩, hb1⟩
  replace ho := Lib.hid (own_mono ho W0.out.size)
  replace W0 := Lib.hid (Buf.then_ W0.out hb1)
  clear hb1 e0 e1 e2 e3 e4 e5 e6 e7 e8 e9 e10 v0 v1 v2 v3 v4 v5
  go_wp2_with fail
  go_ret2
  exact ⟨⟨_, rfl, ho.out⟩, W0.out⟩
theorem point_any (x y z : Int) (w : World) :
    Calls Try.prog 34 #[.agg #[.int .i64 x, .int .i64 y, .int .i64 z]] w fun r w' => r = .returned (.agg #[.int .i64 x, .int .i64 y, .int .i64 z, .int .i64 x, .int .i64 y, .int .i64 z]) ∧ Below w.heap.size w w' := by
  go_enter Try.func34, Try.ntmps34
  go_wp2
  exact bodyPost_ret (v := .agg #[.int .i64 x, .int .i64 y, .int .i64 z, .int .i64 x, .int .i64 y, .int .i64 z]) (by simp [results, Try.results34, go_sem]) rfl ⟨rfl, (new_block _).alloc (by simp) _⟩
end Mis
end Go.Proofs.Ytldgihlhioeipaa
