/- PlacBC: texts joined. -/
import Derived.Test.YtldgihlhioeipaaGeoL
import Derived.Test.YtldgihlhioeipaaPlace
/- Contracts of the reader of numbers: Box, Range, Point. -/
namespace Go.Proofs.Ytldgihlhioeipaa
open Go.RowKit
namespace Src
/-- What Box returns. -/
def Boxed (m s : Int) (e : Ending) : Prop := ∃ a b c d e' f : Int, e = .returned (.agg #[.int .i64 a, .int .i64 b, .int .i64 c, .int .i64 d, .int .i64 e', .int .i64 f]) ∧ Geo.BV a b c d e' f ∧ d ≤ a + s ∧ e' ≤ b + s ∧ f ≤ c + s ∧ -m ≤ a ∧ a ≤ m ∧ -m ≤ b ∧ b ≤ m ∧ 0 ≤ c ∧ c ≤ m
set_option maxHeartbeats 4000000 in
set_option maxRecDepth 100000 in
theorem box_any {W w : World} {g : Nat} {a : Option Addr} {len cap : Nat} {zs : List Int} (m s : Int) (h : Di W w g a len cap zs) (m0 : 0 ≤ m) (m1 : m ≤ 524288) (s0 : 0 ≤ s) (s1 : s ≤ 524288) :
    Calls Try.prog 17 #[.pointer (some ⟨g, 0, none⟩), .int .i64 m, .int .i64 s] w fun e w' => Boxed m s e ∧ Left W w w' g a len cap zs := by
  have H := Lib.hid h
  have hne : Hid (w.heap.size ≠ g) := Lib.hid (by have := h.lt; omega)
  have hg := h.lt
  have L0 := Lib.hid ((Left.refl h).alloc (.cells #[.int .i64 0, .int .i64 0, .int .i64 0, .int .i64 0, .int .i64 0, .int .i64 0] 26))
  have p0 := Lib.hid (Geo.blk_new w (.cells #[.int .i64 0, .int .i64 0, .int .i64 0, .int .i64 0, .int .i64 0, .int .i64 0] 26))
  clear h
  go_enter Try.func17, Try.ntmps17
  go_wp2_with fail
  refine (place_any m L0.out.di m0 (by omega)).mono ?_
  rintro e w1 ⟨⟨x, y, z, rfl, x0, x1, y0, y1', z0, z1⟩, hl⟩
  replace p0 := Lib.hid (Geo.blk_alloc (hl.blk p0.out hne.out) (.cells #[.int .i64 x, .int .i64 y, .int .i64 z] 24))
  have hlt : w.heap.size < w1.heap.size := (Array.getElem?_eq_some_iff.1 (hl.blk (Geo.blk_new w (.cells #[.int .i64 0, .int .i64 0, .int .i64 0, .int .i64 0, .int .i64 0, .int .i64 0] 26)) hne.out)).1
  have hneP : w1.heap.size ≠ g := by omega
  have g1 := Lib.hid (Geo.blk_new w1 (.cells #[.int .i64 x, .int .i64 y, .int .i64 z] 24))
  replace L0 := Lib.hid ((L0.out.trans hl).alloc (.cells #[.int .i64 x, .int .i64 y, .int .i64 z] 24))
  clear hl
  go_wp2_with fail
  have hz : Hid ((w1.alloc (.cells #[.int .i64 x, .int .i64 y, .int .i64 z] 24)).heap.size = w1.heap.size + 1) := Lib.hid (by simp)
  generalize w1.alloc (.cells #[.int .i64 x, .int .i64 y, .int .i64 z] 24) = w2 at *
  obtain ⟨a1, a2, a3, _, _, _⟩ := Geo.cells3 g1.out
  have hs : IntKind.i64.wrap (s + 1) = s + 1 := IntWalk.i64_in _ (by omega)
  have hne' := hne.out
  have hwp : w.heap.size ≠ w1.heap.size := by omega
  go_region_held3 (fun w' => w'.cell? ⟨w1.heap.size, 0, none⟩ = some (.int .i64 x) ∧ w'.cell? ⟨w1.heap.size, 1, none⟩ = some (.int .i64 y) ∧ w'.cell? ⟨w1.heap.size, 2, none⟩ = some (.int .i64 z))
      (first
        | (go_split_ands; ((with_reducible refine ⟨hl.cell hneP ?_, hl.cell hneP ?_, hl.cell hneP ?_⟩) <;> (with_reducible assumption)))
        | (go_split_ands; ((with_reducible refine ⟨(Geo.st6_far hwp).trans ?_, (Geo.st6_far hwp).trans ?_, (Geo.st6_far hwp).trans ?_⟩) <;> (with_reducible assumption)))
        | go_keep)
      ((first
        | (go_at_call 7; (with_reducible refine (n_any _ L2.out.di (by omega) (by omega)).mono ?_); rintro r w5 ⟨⟨r, rfl, r0, r1⟩, hl⟩; have L3 := Lib.hid (L2.out.trans hl); have p3 := Lib.hid (hl.blk p2.out hne'); obtain ⟨e1, e2, e3, e4, e5, e6, e7, e8, e9, e10, e11, e12⟩ := Geo.cells6f p3.out)
        | (go_at_call 7; (with_reducible refine (n_any _ L2.out.drew.di (by omega) (by omega)).mono ?_); rintro r w5 ⟨⟨r, rfl, r0, r1⟩, hl⟩; have L3 := Lib.hid (L2.out.drew.trans hl); have p3 := Lib.hid (hl.blk p2.out hne'); obtain ⟨e1, e2, e3, e4, e5, e6, e7, e8, e9, e10, e11, e12⟩ := Geo.cells6f p3.out)
        | (go_at_call 7; (with_reducible refine (n_any _ L1.out.di (by omega) (by omega)).mono ?_); rintro r w4 ⟨⟨v, rfl, v0, v1⟩, hl⟩; have L2 := Lib.hid (L1.out.trans hl); have p2 := Lib.hid (hl.blk p1.out hne'); obtain ⟨e1, e2, e3, e4, e5, e6, e7, e8, e9, e10, e11, e12⟩ := Geo.cells6f p2.out)
        | (go_at_call 7; (with_reducible refine (n_any _ L1.out.drew.di (by omega) (by omega)).mono ?_); rintro r w4 ⟨⟨v, rfl, v0, v1⟩, hl⟩; have L2 := Lib.hid (L1.out.drew.trans hl); have p2 := Lib.hid (hl.blk p1.out hne'); obtain ⟨e1, e2, e3, e4, e5, e6, e7, e8, e9, e10, e11, e12⟩ := Geo.cells6f p2.out)
        | (go_at_call 7; (with_reducible refine (n_any _ L0.out.di (by omega) (by omega)).mono ?_); rintro r w3 ⟨⟨u, rfl, u0, u1⟩, hl⟩; have L1 := Lib.hid (L0.out.trans hl); have p1 := Lib.hid (hl.blk p0.out hne'); obtain ⟨e1, e2, e3, e4, e5, e6, e7, e8, e9, e10, e11, e12⟩ := Geo.cells6f p1.out)
        | (go_at_call 7; (with_reducible refine (n_any _ L0.out.drew.di (by omega) (by omega)).mono ?_); rintro r w3 ⟨⟨u, rfl, u0, u1⟩, hl⟩; have L1 := Lib.hid (L0.out.drew.trans hl); have p1 := Lib.hid (hl.blk p0.out hne'); obtain ⟨e1, e2, e3, e4, e5, e6, e7, e8, e9, e10, e11, e12⟩ := Geo.cells6f p1.out)))
  rw [IntWalk.i64_in (x + u) (by omega), IntWalk.i64_in (y + v) (by omega), IntWalk.i64_in (z + r) (by omega)]
  have y1 := Lib.hid (Geo.st6 p3.out (.int .i64 x) (.int .i64 y) (.int .i64 z) (.int .i64 (x + u)) (.int .i64 (y + v)) (.int .i64 (z + r)))
  have y3 := Lib.hid (Geo.st6_below (Below.refl w.heap.size w5) (Nat.le_refl _) (.int .i64 x) (.int .i64 y) (.int .i64 z) (.int .i64 (x + u)) (.int .i64 (y + v)) (.int .i64 (z + r)))
  go_wp2
  refine bodyPost_ret (results_cell_row rfl _ _ w.heap.size _ _ _ _ rfl y1.out rfl (by rfl) rfl) rfl ⟨⟨_, _, _, _, _, _, rfl, ⟨⟨?_, ?_, ?_, ?_, ?_, ?_⟩, ⟨?_, ?_, ?_, ?_, ?_, ?_⟩, ?_, ?_, ?_⟩, ?_, ?_, ?_, x0, x1, y0, y1', z0, z1⟩, Left.past H.out L3.out y3.out⟩
  all_goals omega
end Src
end Go.Proofs.Ytldgihlhioeipaa

/- Contracts of the reader of numbers: Range, Point. -/
namespace Go.Proofs.Ytldgihlhioeipaa
open Go.RowKit
namespace Src
def Ranged (lo hi : Int) (e : Ending) : Prop := ∃ v : Int, e = .returned (.int .i64 v) ∧ lo ≤ v ∧ v ≤ hi
set_option maxRecDepth 100000 in
theorem range_any {W w : World} {g : Nat} {a : Option Addr} {len cap : Nat} {zs : List Int} (lo hi : Int) (h : Di W w g a len cap zs) (l0 : -1048576 ≤ lo) (l1 : lo ≤ hi) (l2 : hi ≤ 1048576) :
    Calls Try.prog 38 #[.pointer (some ⟨g, 0, none⟩), .int .i64 lo, .int .i64 hi] w fun e w' => Ranged lo hi e ∧ Left W w w' g a len cap zs := by
  have H := Lib.hid h
  clear h
  go_enter Try.func38, Try.ntmps38
  go_wp2_with fail
  refine (n_any _ H.out (by omega) (by omega)).mono ?_
  rintro e w1 ⟨⟨v, rfl, v0, v1⟩, hl⟩
  go_wp2
  go_ret
  exact ⟨⟨_, rfl, by omega, by omega⟩, hl⟩
theorem s3_far {w : World} {t : Nat} {a b c : Value} {x : Addr} (h : t ≠ x.block) : (((w.setCell ⟨t, 0, none⟩ a).setCell ⟨t, 1, none⟩ b).setCell ⟨t, 2, none⟩ c).cell? x = w.cell? x := by
  rw [World.cell?_setCell_far _ _ _ _ h, World.cell?_setCell_far _ _ _ _ h, World.cell?_setCell_far _ _ _ _ h]
/-- What Point returns. -/
def Pointed (p1 p2 p3 q1 q2 q3 : Int) (e : Ending) : Prop := ∃ x y z : Int, e = .returned (.agg #[.int .i64 x, .int .i64 y, .int .i64 z]) ∧ p1 ≤ x ∧ x ≤ q1 ∧ p2 ≤ y ∧ y ≤ q2 ∧ p3 ≤ z ∧ z ≤ q3
set_option maxHeartbeats 4000000 in
set_option maxRecDepth 100000 in
theorem point_any {W w : World} {g : Nat} {a : Option Addr} {len cap : Nat} {zs : List Int} (p1 p2 p3 q1 q2 q3 : Int) (hb : Geo.BV p1 p2 p3 q1 q2 q3) (h : Di W w g a len cap zs) :
    Calls Try.prog 20 #[.pointer (some ⟨g, 0, none⟩), .agg #[.int .i64 p1, .int .i64 p2, .int .i64 p3, .int .i64 q1, .int .i64 q2, .int .i64 q3]] w fun e w' => Pointed p1 p2 p3 q1 q2 q3 e ∧ Left W w w' g a len cap zs := by
  obtain ⟨⟨ax0, ax1, ay0, ay1, az0, az1⟩, ⟨dx0, dx1, dy0, dy1, dz0, dz1⟩, hx, hy, hz⟩ := hb
  have H := Lib.hid h
  have hg := h.lt
  have hne' : w.heap.size + 1 ≠ g := by omega
  have hneP : w.heap.size ≠ g := by omega
  have L0 := Lib.hid (((Left.refl h).alloc (.cells #[.int .i64 p1, .int .i64 p2, .int .i64 p3, .int .i64 q1, .int .i64 q2, .int .i64 q3] 26)).alloc (.cells #[.int .i64 0, .int .i64 0, .int .i64 0] 24))
  have b1 := Lib.hid (Geo.blk_alloc (Geo.blk_new w (.cells #[.int .i64 p1, .int .i64 p2, .int .i64 p3, .int .i64 q1, .int .i64 q2, .int .i64 q3] 26)) (.cells #[.int .i64 0, .int .i64 0, .int .i64 0] 24))
  have p0 := Lib.hid (Geo.blk_new1 w (.cells #[.int .i64 p1, .int .i64 p2, .int .i64 p3, .int .i64 q1, .int .i64 q2, .int .i64 q3] 26) (.cells #[.int .i64 0, .int .i64 0, .int .i64 0] 24))
  clear h
  go_enter Try.func20, Try.ntmps20
  go_wp2_with fail
  generalize (w.alloc (.cells #[.int .i64 p1, .int .i64 p2, .int .i64 p3, .int .i64 q1, .int .i64 q2, .int .i64 q3] 26)).alloc (.cells #[.int .i64 0, .int .i64 0, .int .i64 0] 24) = w2 at *
  obtain ⟨a1, a2, a3, a4, a5, a6⟩ := Geo.cells6 b1.out
  have hwp : w.heap.size + 1 ≠ w.heap.size := by omega
  go_region_held3 (fun w' => w'.cell? ⟨w.heap.size, 0, none⟩ = some (.int .i64 p1) ∧ w'.cell? ⟨w.heap.size, 1, none⟩ = some (.int .i64 p2) ∧ w'.cell? ⟨w.heap.size, 2, none⟩ = some (.int .i64 p3) ∧ w'.cell? ⟨w.heap.size, 3, none⟩ = some (.int .i64 q1) ∧ w'.cell? ⟨w.heap.size, 4, none⟩ = some (.int .i64 q2) ∧ w'.cell? ⟨w.heap.size, 5, none⟩ = some (.int .i64 q3))
      (first
        | (go_split_ands; ((with_reducible refine ⟨hl.cell hneP ?_, hl.cell hneP ?_, hl.cell hneP ?_, hl.cell hneP ?_, hl.cell hneP ?_, hl.cell hneP ?_⟩) <;> (with_reducible assumption)))
        | (go_split_ands; ((with_reducible refine ⟨(s3_far hwp).trans ?_, (s3_far hwp).trans ?_, (s3_far hwp).trans ?_, (s3_far hwp).trans ?_, (s3_far hwp).trans ?_, (s3_far hwp).trans ?_⟩) <;> (with_reducible assumption)))
        | go_keep)
      ((first
        | (go_at_call 38; (with_reducible refine (range_any p3 q3 L2.out.di (by omega) (by omega) (by omega)).mono ?_); rintro r w5 ⟨⟨z, rfl, z0, z1⟩, hl⟩; have L3 := Lib.hid (L2.out.trans hl); have s3 := Lib.hid (hl.blk s2.out hne'); obtain ⟨_, _, _, _, _, _⟩ := Geo.cells3 s3.out)
        | (go_at_call 38; (with_reducible refine (range_any p3 q3 L2.out.drew.di (by omega) (by omega) (by omega)).mono ?_); rintro r w5 ⟨⟨z, rfl, z0, z1⟩, hl⟩; have L3 := Lib.hid (L2.out.drew.trans hl); have s3 := Lib.hid (hl.blk s2.out hne'); obtain ⟨_, _, _, _, _, _⟩ := Geo.cells3 s3.out)
        | (go_at_call 38; (with_reducible refine (range_any p2 q2 L1.out.di (by omega) (by omega) (by omega)).mono ?_); rintro r w4 ⟨⟨y, rfl, y0, y1'⟩, hl⟩; have L2 := Lib.hid (L1.out.trans hl); have s2 := Lib.hid (hl.blk s1.out hne'); obtain ⟨_, _, _, _, _, _⟩ := Geo.cells3 s2.out)
        | (go_at_call 38; (with_reducible refine (range_any p2 q2 L1.out.drew.di (by omega) (by omega) (by omega)).mono ?_); rintro r w4 ⟨⟨y, rfl, y0, y1'⟩, hl⟩; have L2 := Lib.hid (L1.out.drew.trans hl); have s2 := Lib.hid (hl.blk s1.out hne'); obtain ⟨_, _, _, _, _, _⟩ := Geo.cells3 s2.out)
        | (go_at_call 38; (with_reducible refine (range_any p1 q1 L0.out.di (by omega) (by omega) (by omega)).mono ?_); rintro r w3 ⟨⟨x, rfl, x0, x1⟩, hl⟩; have L1 := Lib.hid (L0.out.trans hl); have s1 := Lib.hid (hl.blk p0.out hne'); obtain ⟨_, _, _, _, _, _⟩ := Geo.cells3 s1.out)
        | (go_at_call 38; (with_reducible refine (range_any p1 q1 L0.out.drew.di (by omega) (by omega) (by omega)).mono ?_); rintro r w3 ⟨⟨x, rfl, x0, x1⟩, hl⟩; have L1 := Lib.hid (L0.out.drew.trans hl); have s1 := Lib.hid (hl.blk p0.out hne'); obtain ⟨_, _, _, _, _, _⟩ := Geo.cells3 s1.out)))
  have y1 := Lib.hid (Geo.st3 s3.out (.int .i64 x) (.int .i64 y) (.int .i64 z))
  have y3 := Lib.hid (Geo.st3_below (Below.refl w.heap.size w5) (g := w.heap.size + 1) (by omega) (.int .i64 x) (.int .i64 y) (.int .i64 z))
  go_wp2
  exact bodyPost_ret (results_cell_row rfl _ _ (w.heap.size + 1) _ _ _ _ rfl y1.out rfl (by rfl) rfl) rfl ⟨⟨_, _, _, rfl, x0, x1, y0, y1', z0, z1⟩, Left.past H.out L3.out y3.out⟩
end Src
end Go.Proofs.Ytldgihlhioeipaa
