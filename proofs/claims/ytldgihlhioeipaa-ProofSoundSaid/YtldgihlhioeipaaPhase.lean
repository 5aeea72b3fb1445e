/- Phases that the reader makes. -/
import Derived.Test.YtldgihlhioeipaaPlace
import Derived.Test.YtldgihlhioeipaaGeoAI
import Derived.Deep.RegionHeld3
set_option linter.unusedVariables false
namespace Go.Proofs.Ytldgihlhioeipaa
open Go.RowKit
namespace Src
theorem st6_2 {w : World} {g : Nat} {a b c d e f x : Value} {t : TypeId} (h : w.heap[g]? = some (.cells #[a, b, c, d, e, f] t (0, 0))) : (w.setCell ⟨g, 4, none⟩ x).heap[g]? = some (.cells #[a, b, c, d, x, f] t (0, 0)) := (heap_setCell_same w g 4 _ _ x h).trans rfl
theorem ints_kept' {W w : World} {b : Nat} {xs : List Int} (h : Src.Ints W b xs) (hb : w.heap[b]? = W.heap[b]?) : Src.Ints w b xs := fun j hj =>
  (World.cell?_of_block (a := ⟨b, j, none⟩) hb).trans (h j hj)
theorem off43 {w : World} {g : Nat} (x : Value) : (w.setCell ⟨g, 4, none⟩ x).cell? ⟨g, 3, none⟩ = w.cell? ⟨g, 3, none⟩ := World.cell?_setCell_other _ _ _ _ (by simp)
def Phased (r : Ending) : Prop := ∃ x y z E L W : Int, r = .returned (.agg #[.int .i64 x, .int .i64 y, .int .i64 z, .int .i64 E, .int .i64 L, .int .i64 W]) ∧ -60 ≤ x ∧ x ≤ 60 ∧ -60 ≤ y ∧ y ≤ 60 ∧ 0 ≤ z ∧ z ≤ 60 ∧ 1000 ≤ E ∧ E ≤ 2999 ∧ E ≤ L ∧ L ≤ E + 40 ∧ 1 ≤ W ∧ W ≤ 4
set_option maxHeartbeats 4000000 in
set_option maxRecDepth 100000 in
theorem phase_any {W0 w : World} {g : Nat} {a : Option Addr} {len cap : Nat} {zs : List Int} (h : Di W0 w g a len cap zs) :
    Calls Try.prog 21 #[.pointer (some ⟨g, 0, none⟩)] w fun r w' => Phased r ∧ Left W0 w w' g a len cap zs := by
  have H := Lib.hid h
  have hne : w.heap.size ≠ g := by have := h.lt; omega
  have L0 := Lib.hid ((Left.refl h).alloc (.cells #[.int .i64 0, .int .i64 0, .int .i64 0, .int .i64 0, .int .i64 0, .int .i64 0] 63))
  have p0 := Lib.hid (Geo.blk_new w (.cells #[.int .i64 0, .int .i64 0, .int .i64 0, .int .i64 0, .int .i64 0, .int .i64 0] 63))
  clear h
  go_enter Try.func21, Try.ntmps21
  go_wp2_with fail
  refine (place_any _ L0.out.di (by omega) (by omega)).mono ?_
  rintro e w1 ⟨⟨x, y, z, rfl, x0, x1, y0, y1, z0, z1⟩, hl⟩
  replace p0 := Lib.hid (hl.blk p0.out hne)
  replace L0 := Lib.hid (L0.out.trans hl)
  clear hl
  go_wp2_with fail
  refine (n_any _ L0.out.di (by omega) (by omega)).mono ?_
  rintro e w2 ⟨⟨E, rfl, e0, e1⟩, hl⟩
  replace p0 := Lib.hid (hl.blk p0.out hne)
  replace L0 := Lib.hid (L0.out.trans hl)
  clear hl
  go_wp2_with fail
  refine (n_any _ L0.out.di (by omega) (by omega)).mono ?_
  rintro e w3 ⟨⟨W, rfl, w0, w9⟩, hl⟩
  replace p0 := Lib.hid (hl.blk p0.out hne)
  replace L0 := Lib.hid (L0.out.trans hl)
  clear hl
  have lt3 := L0.out.di.lt
  have hle : w.heap.size ≤ w3.heap.size := L0.out.far.size
  have neT : w3.heap.size ≠ g := by omega
  have p1 := Lib.hid (Geo.blk_new w3 (.cells #[.int .i64 x, .int .i64 y, .int .i64 z, .int .i64 (1000 + E), .int .i64 0, .int .i64 (1 + W)] 63))
  replace p0 := Lib.hid (Geo.blk_alloc p0.out (.cells #[.int .i64 x, .int .i64 y, .int .i64 z, .int .i64 (1000 + E), .int .i64 0, .int .i64 (1 + W)] 63))
  replace L0 := Lib.hid (L0.out.alloc (.cells #[.int .i64 x, .int .i64 y, .int .i64 z, .int .i64 (1000 + E), .int .i64 0, .int .i64 (1 + W)] 63))
  go_wp2_with fail
  have hz : Hid ((w3.alloc (.cells #[.int .i64 x, .int .i64 y, .int .i64 z, .int .i64 (1000 + E), .int .i64 0, .int .i64 (1 + W)] 63)).heap.size = w3.heap.size + 1) := Lib.hid (by simp)
  have hlt := (Array.getElem?_eq_some_iff.1 p0.out).1
  have hw3 : w.heap.size ≠ w3.heap.size := by
    have a0 := p0.out
    intro hh
    rw [hh, p1.out] at a0
    simp at a0
    omega
  generalize w3.alloc (.cells #[.int .i64 x, .int .i64 y, .int .i64 z, .int .i64 (1000 + E), .int .i64 0, .int .i64 (1 + W)] 63) = wc at *
  have hz' := hz.out
  have neC : wc.heap.size ≠ g := by omega
  obtain ⟨k1, k2, k3, k4, k5, k6⟩ := Geo.cells6 p1.out
  have J1 : Hid (Src.Ints (wc.drew.alloc (.cells #[.int .i64 0, .int .i64 0, .int .i64 3, .int .i64 10, .int .i64 40] 3)) wc.heap.size [0, 0, 3, 10, 40]) := Lib.hid (by simpa using Src.ints_alloc wc.drew [0, 0, 3, 10, 40] 3 )
  have J2 : Hid (Src.Ints (wc.alloc (.cells #[.int .i64 0, .int .i64 0, .int .i64 3, .int .i64 10, .int .i64 40] 3)).drew wc.heap.size [0, 0, 3, 10, 40]) := Lib.hid (ints_kept' (W := wc.alloc (.cells #[.int .i64 0, .int .i64 0, .int .i64 3, .int .i64 10, .int .i64 40] 3)) (by simpa using Src.ints_alloc wc [0, 0, 3, 10, 40] 3 ) rfl)
  have D1 := Lib.hid (L0.out.drew.alloc (.cells #[.int .i64 0, .int .i64 0, .int .i64 3, .int .i64 10, .int .i64 40] 3))
  have D2 := Lib.hid ((L0.out.alloc (.cells #[.int .i64 0, .int .i64 0, .int .i64 3, .int .i64 10, .int .i64 40] 3)).drew)
  have q1 := Lib.hid (Geo.blk_alloc (Geo.blk_drew p1.out) (.cells #[.int .i64 0, .int .i64 0, .int .i64 3, .int .i64 10, .int .i64 40] 3))
  have q2 := Lib.hid (Geo.blk_drew (Geo.blk_alloc p1.out (.cells #[.int .i64 0, .int .i64 0, .int .i64 3, .int .i64 10, .int .i64 40] 3)))
  have s1 := Lib.hid (Geo.blk_alloc (Geo.blk_drew p0.out) (.cells #[.int .i64 0, .int .i64 0, .int .i64 3, .int .i64 10, .int .i64 40] 3))
  have s2 := Lib.hid (Geo.blk_drew (Geo.blk_alloc p0.out (.cells #[.int .i64 0, .int .i64 0, .int .i64 3, .int .i64 10, .int .i64 40] 3)))
  have ss1 : wc.heap.size < (wc.drew.alloc (.cells #[.int .i64 0, .int .i64 0, .int .i64 3, .int .i64 10, .int .i64 40] 3)).heap.size := by simp
  have ss2 : wc.heap.size < (wc.alloc (.cells #[.int .i64 0, .int .i64 0, .int .i64 3, .int .i64 10, .int .i64 40] 3)).drew.heap.size := by simp
  clear hz' hz k1 k2 k3 k5 k6
  go_wp2_with fail
  go_region_held3 (fun w' => w'.cell? ⟨w3.heap.size, 3, none⟩ = some (.int .i64 (1000 + E)))
    (first
      | ((with_reducible refine hl.cell neT ?_) <;> (with_reducible assumption))
      | ((with_reducible refine (off43 _).trans ?_) <;> (with_reducible assumption))
      | go_keep)
    ((first
      | (go_at_call 19; (with_reducible refine (Src.pick_any wc.heap.size [0, 0, 3, 10, 40] 5 5 D1.out.di J1.out rfl (by omega) (by omega) neC ss1).mono ?_); rintro r w4 ⟨⟨v, rfl, hv⟩, hl⟩; have L4 := Lib.hid (D1.out.trans hl); have r1 := Lib.hid (hl.blk q1.out neT); have r0 := Lib.hid (hl.blk s1.out hne); have fz := frozen_of_row w4 w3.heap.size 4 _ _ r1.out; have ck := cell_of_row w4 w3.heap.size 4 _ _ _ r1.out)
      | (go_at_call 19; (with_reducible refine (Src.pick_any wc.heap.size [0, 0, 3, 10, 40] 5 5 D2.out.di J2.out rfl (by omega) (by omega) neC ss2).mono ?_); rintro r w4 ⟨⟨v, rfl, hv⟩, hl⟩; have L4 := Lib.hid (D2.out.trans hl); have r1 := Lib.hid (hl.blk q2.out neT); have r0 := Lib.hid (hl.blk s2.out hne); have fz := frozen_of_row w4 w3.heap.size 4 _ _ r1.out; have ck := cell_of_row w4 w3.heap.size 4 _ _ _ r1.out)))
  have hv' : 0 ≤ v ∧ v ≤ 40 := by
    simp only [List.mem_cons, List.not_mem_nil, or_false] at hv
    omega
  obtain ⟨v0, v9⟩ := hv'
  rw [IntWalk.i64_in (1000 + E + v) (by omega)]
  have t1 := Lib.hid (st6_2 (x := .int .i64 (1000 + E + v)) r1.out)
  have t0 := Lib.hid ((Below.heap_setCell w4 ⟨w3.heap.size, 4, none⟩ (.int .i64 (1000 + E + v)) w.heap.size hw3).trans r0.out)
  have B1 := Lib.hid ((Below.refl w.heap.size w4).setCell (p := ⟨w3.heap.size, 4, none⟩) hle (.int .i64 (1000 + E + v)))
  have hneT := neT
  clear J1 J2 D1 D2 q1 q2 s1 s2 ss1 ss2 fz ck k4 hl
  generalize w4.setCell ⟨w3.heap.size, 4, none⟩ (.int .i64 (1000 + E + v)) = w5 at *
  obtain ⟨k1, k2, k3, k4, k5, k6⟩ := Geo.cells6 t1.out
  obtain ⟨e1, e2, e3, e4, e5, e6, e7, e8, e9, e10, e11, e12⟩ := Geo.cells6f t0.out
  have y1' := Lib.hid (Geo.st6 t0.out (.int .i64 x) (.int .i64 y) (.int .i64 z) (.int .i64 (1000 + E)) (.int .i64 (1000 + E + v)) (.int .i64 (1 + W)))
  have y3 := Lib.hid (Geo.st6_below B1.out (Nat.le_refl _) (.int .i64 x) (.int .i64 y) (.int .i64 z) (.int .i64 (1000 + E)) (.int .i64 (1000 + E + v)) (.int .i64 (1 + W)))
  go_wp2
  refine bodyPost_ret (results_cell_row rfl _ _ w.heap.size _ _ _ _ rfl y1'.out rfl (by rfl) rfl) rfl ⟨⟨_, _, _, _, _, _, rfl, ?_⟩, Left.past H.out L4.out y3.out⟩
  refine ⟨?_, ?_, ?_, ?_, ?_, ?_, ?_, ?_, ?_, ?_, ?_, ?_⟩ <;> omega
end Src
end Go.Proofs.Ytldgihlhioeipaa
