/- Contracts of the reader of numbers: Position. -/
import Derived.Test.YtklgnbimfobgkaaPlace
namespace Go.Proofs.Ytklgnbimfobgkaa
open Go.RowKit
namespace Src
/-- A valid position. -/
def Posed (e : Ending) : Prop := ∃ x y z : Int, e = .returned (.agg #[.int .i64 x, .int .i64 y, .int .i64 z]) ∧ Geo.PV x y z
theorem mem3 {x a b c : Int} (h : x ∈ [a, b, c]) : x = a ∨ x = b ∨ x = c := by simpa using h
set_option maxHeartbeats 1000000 in
set_option maxRecDepth 100000 in
theorem position_any {W w : World} {g : Nat} {a : Option Addr} {len cap : Nat} {zs : List Int} (m : Int) (h : Di W w g a len cap zs) (m0 : 0 ≤ m) (m1 : m ≤ 1048576) :
    Calls Try.prog 19 #[.pointer (some ⟨g, 0, none⟩), .int .i64 m] w fun e w' => Posed e ∧ Left W w w' g a len cap zs := by
  have H := Lib.hid h
  have hne : Hid (w.heap.size ≠ g) := Lib.hid (by have := h.lt; omega)
  have L0 := Lib.hid ((Left.refl h).alloc (.cells #[.int .i64 0, .int .i64 0, .int .i64 0] 23))
  have p0 := Lib.hid (Geo.blk_new w (.cells #[.int .i64 0, .int .i64 0, .int .i64 0] 23))
  clear h
  go_enter Try.func19, Try.ntmps19
  go_wp2_with fail
  refine (n_any _ L0.out.di (by omega) (by omega)).mono ?_
  rintro e w1 ⟨⟨v, rfl, v0, v1⟩, hl⟩
  replace p0 := Lib.hid (hl.blk p0.out hne.out)
  replace L0 := Lib.hid (L0.out.trans hl)
  clear hl
  by_cases hv : v = 11
  · subst hv
    have I1 := Lib.hid (ints_alloc w1 [-1048576, 1048576, 0] 3)
    have n1 := L0.out.di.lt
    go_wp2_with fail
    refine (pick_any w1.heap.size [-1048576, 1048576, 0] 3 3 (L0.out.alloc _).di I1.out rfl (by omega) (by omega) (by omega) (by simp)).mono ?_
    rintro e w2 ⟨⟨x, rfl, hx⟩, hl⟩
    replace p0 := Lib.hid (hl.blk (Geo.blk_alloc p0.out _) hne.out)
    replace L0 := Lib.hid ((L0.out.alloc _).trans hl)
    replace hx := Lib.hid (mem3 hx)
    clear hl I1 n1
    have I1 := Lib.hid (ints_alloc w2 [-1048576, 1048576, 5] 3)
    have n1 := L0.out.di.lt
    go_wp2_with fail
    refine (pick_any w2.heap.size [-1048576, 1048576, 5] 3 3 (L0.out.alloc _).di I1.out rfl (by omega) (by omega) (by omega) (by simp)).mono ?_
    rintro e w3 ⟨⟨y, rfl, hy⟩, hl⟩
    replace p0 := Lib.hid (hl.blk (Geo.blk_alloc p0.out _) hne.out)
    replace L0 := Lib.hid ((L0.out.alloc _).trans hl)
    replace hy := Lib.hid (mem3 hy)
    clear hl I1 n1
    have I1 := Lib.hid (ints_alloc w3 [-16384, 1048576, 0] 3)
    have n1 := L0.out.di.lt
    go_wp2_with fail
    refine (pick_any w3.heap.size [-16384, 1048576, 0] 3 3 (L0.out.alloc _).di I1.out rfl (by omega) (by omega) (by omega) (by simp)).mono ?_
    rintro e w4 ⟨⟨z, rfl, hz⟩, hl⟩
    replace p0 := Lib.hid (hl.blk (Geo.blk_alloc p0.out _) hne.out)
    replace L0 := Lib.hid ((L0.out.alloc _).trans hl)
    replace hz := Lib.hid (mem3 hz)
    clear hl I1 n1
    obtain ⟨c1, c2, c3, f1, f2, f3⟩ := Geo.cells3 p0.out
    go_wp2
    exact bodyPost_ret (results_cell_row rfl _ _ w.heap.size _ _ _ _ rfl (Geo.st3 p0.out _ _ _) rfl (by rfl) rfl) rfl ⟨⟨_, _, _, rfl, ⟨by have := hx.out; omega, by have := hx.out; omega, by have := hy.out; omega, by have := hy.out; omega, by have := hz.out; omega, by have := hz.out; omega⟩⟩, Left.past H.out L0.out (Geo.st3_below (Below.refl _ _) (Nat.le_refl _) _ _ _)⟩
  · have hv' : (v == 11) = false := by rw [beq_eq_false_iff_ne]; exact hv
    go_wp2_with fail
    refine (n_any _ L0.out.di (by omega) (by omega)).mono ?_
    rintro e w2 ⟨⟨x, rfl, x0, x1⟩, hl⟩
    replace p0 := Lib.hid (hl.blk p0.out hne.out)
    replace L0 := Lib.hid (L0.out.trans hl)
    clear hl
    go_wp2_with fail
    refine (n_any _ L0.out.di (by omega) (by omega)).mono ?_
    rintro e w3 ⟨⟨y, rfl, y0, y1⟩, hl⟩
    replace p0 := Lib.hid (hl.blk p0.out hne.out)
    replace L0 := Lib.hid (L0.out.trans hl)
    clear hl
    go_wp2_with fail
    refine (n_any _ L0.out.di (by omega) (by omega)).mono ?_
    rintro e w4 ⟨⟨z, rfl, z0, z1⟩, hl⟩
    replace p0 := Lib.hid (hl.blk p0.out hne.out)
    replace L0 := Lib.hid (L0.out.trans hl)
    clear hl
    obtain ⟨c1, c2, c3, f1, f2, f3⟩ := Geo.cells3 p0.out
    go_wp2
    exact bodyPost_ret (results_cell_row rfl _ _ w.heap.size _ _ _ _ rfl (Geo.st3 p0.out _ _ _) rfl (by rfl) rfl) rfl ⟨⟨_, _, _, rfl, ⟨by omega, by omega, by omega, by omega, by omega, by omega⟩⟩, Left.past H.out L0.out (Geo.st3_below (Below.refl _ _) (Nat.le_refl _) _ _ _)⟩
end Src
end Go.Proofs.Ytklgnbimfobgkaa
