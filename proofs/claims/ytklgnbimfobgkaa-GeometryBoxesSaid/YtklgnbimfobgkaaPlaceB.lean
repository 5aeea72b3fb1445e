/- Contracts of the reader of numbers: Box, Range, Point. -/
import Derived.Test.YtklgnbimfobgkaaGeoL
import Derived.Test.YtklgnbimfobgkaaPlace
namespace Go.Proofs.Ytklgnbimfobgkaa
open Go.RowKit
namespace Src
/-- What Box returns. -/
def Boxed (m s : Int) (e : Ending) : Prop := ∃ a b c d e' f : Int, e = .returned (.agg #[.int .i64 a, .int .i64 b, .int .i64 c, .int .i64 d, .int .i64 e', .int .i64 f]) ∧ Geo.BV a b c d e' f ∧ d ≤ a + s ∧ e' ≤ b + s ∧ f ≤ c + s ∧ -m ≤ a ∧ a ≤ m ∧ -m ≤ b ∧ b ≤ m ∧ 0 ≤ c ∧ c ≤ m
set_option maxHeartbeats 4000000 in
set_option maxRecDepth 100000 in
theorem box_any {W w : World} {g : Nat} {a : Option Addr} {len cap : Nat} {zs : List Int} (m s : Int) (h : Di W w g a len cap zs) (m0 : 0 ≤ m) (m1 : m ≤ 524288) (s0 : 0 ≤ s) (s1 : s ≤ 524288) :
    Calls Try.prog 9 #[.pointer (some ⟨g, 0, none⟩), .int .i64 m, .int .i64 s] w fun e w' => Boxed m s e ∧ Left W w w' g a len cap zs := by
  have H := Lib.hid h
  have hne : Hid (w.heap.size ≠ g) := Lib.hid (by have := h.lt; omega)
  have hg := h.lt
  have L0 := Lib.hid ((Left.refl h).alloc (.cells #[.int .i64 0, .int .i64 0, .int .i64 0, .int .i64 0, .int .i64 0, .int .i64 0] 25))
  have p0 := Lib.hid (Geo.blk_new w (.cells #[.int .i64 0, .int .i64 0, .int .i64 0, .int .i64 0, .int .i64 0, .int .i64 0] 25))
  clear h
  go_enter Try.func9, Try.ntmps9
  go_wp2_with fail
  refine (place_any m L0.out.di m0 (by omega)).mono ?_
  rintro e w1 ⟨⟨x, y, z, rfl, x0, x1, y0, y1', z0, z1⟩, hl⟩
  replace p0 := Lib.hid (Geo.blk_alloc (hl.blk p0.out hne.out) (.cells #[.int .i64 x, .int .i64 y, .int .i64 z] 23))
  have hlt : w.heap.size < w1.heap.size := (Array.getElem?_eq_some_iff.1 (hl.blk (Geo.blk_new w (.cells #[.int .i64 0, .int .i64 0, .int .i64 0, .int .i64 0, .int .i64 0, .int .i64 0] 25)) hne.out)).1
  have hneP : w1.heap.size ≠ g := by omega
  have g1 := Lib.hid (Geo.blk_new w1 (.cells #[.int .i64 x, .int .i64 y, .int .i64 z] 23))
  replace L0 := Lib.hid ((L0.out.trans hl).alloc (.cells #[.int .i64 x, .int .i64 y, .int .i64 z] 23))
  clear hl
  go_wp2_with fail
  have hz : Hid ((w1.alloc (.cells #[.int .i64 x, .int .i64 y, .int .i64 z] 23)).heap.size = w1.heap.size + 1) := Lib.hid (by simp)
  generalize w1.alloc (.cells #[.int .i64 x, .int .i64 y, .int .i64 z] 23) = w2 at *
  obtain ⟨a1, a2, a3, _, _, _⟩ := Geo.cells3 g1.out
  have hs : IntKind.i64.wrap (s + 1) = s + 1 := IntWalk.i64_in _ (by omega)
  have hne' := hne.out
  have hwp : w.heap.size ≠ w1.heap.size := by omega
  go_region_held3 (fun w' => w'.cell? ⟨w1.heap.size, 0, none⟩ = some (.int .i64 x) ∧ w'.cell? ⟨w1.heap.size, 1, none⟩ = some (.int .i64 y) ∧ w'.cell? ⟨w1.heap.size, 2, none⟩ = some (.int .i64 z))
      (first
        | (go_split_ands; ((with_reducible refine ⟨hl.cell hneP ?_, hl.cell hneP ?_, hl.cell hneP ?_⟩) <;> (with_reducible assumption)))
        | (go_split_ands; ((with_reducible refine ⟨(Geo.st6_far hwp).trans ?_, (Geo.st6_far hwp).trans ?_, (Geo.st6_far hwp).trans ?_⟩) <;> (with_reducible assumption)))
        | go_keep)
      ((first
        | (go_at_call 31; (with_reducible refine (n_any _ L2.out.di (by omega) (by omega)).mono ?_); rintro r w5 ⟨⟨r, rfl, r0, r1⟩, hl⟩; have L3 := Lib.hid (L2.out.trans hl); have p3 := Lib.hid (hl.blk p2.out hne'); obtain ⟨e1, e2, e3, e4, e5, e6, e7, e8, e9, e10, e11, e12⟩ := Geo.cells6f p3.out)
        | (go_at_call 31; (with_reducible refine (n_any _ L2.out.drew.di (by omega) (by omega)).mono ?_); rintro r w5 ⟨⟨r, rfl, r0, r1⟩, hl⟩; have L3 := Lib.hid (L2.out.drew.trans hl); have p3 := Lib.hid (hl.blk p2.out hne'); obtain ⟨e1, e2, e3, e4, e5, e6, e7, e8, e9, e10, e11, e12⟩ := Geo.cells6f p3.out)
        | (go_at_call 31; (with_reducible refine (n_any _ L1.out.di (by omega) (by omega)).mono ?_); rintro r w4 ⟨⟨v, rfl, v0, v1⟩, hl⟩; have L2 := Lib.hid (L1.out.trans hl); have p2 := Lib.hid (hl.blk p1.out hne'); obtain ⟨e1, e2, e3, e4, e5, e6, e7, e8, e9, e10, e11, e12⟩ := Geo.cells6f p2.out)
        | (go_at_call 31; (with_reducible refine (n_any _ L1.out.drew.di (by omega) (by omega)).mono ?_); rintro r w4 ⟨⟨v, rfl, v0, v1⟩, hl⟩; have L2 := Lib.hid (L1.out.drew.trans hl); have p2 := Lib.hid (hl.blk p1.out hne'); obtain ⟨e1, e2, e3, e4, e5, e6, e7, e8, e9, e10, e11, e12⟩ := Geo.cells6f p2.out)
        | (go_at_call 31; (with_reducible refine (n_any _ L0.out.di (by omega) (by omega)).mono ?_); rintro r w3 ⟨⟨u, rfl, u0, u1⟩, hl⟩; have L1 := Lib.hid (L0.out.trans hl); have p1 := Lib.hid (hl.blk p0.out hne'); obtain ⟨e1, e2, e3, e4, e5, e6, e7, e8, e9, e10, e11, e12⟩ := Geo.cells6f p1.out)
        | (go_at_call 31; (with_reducible refine (n_any _ L0.out.drew.di (by omega) (by omega)).mono ?_); rintro r w3 ⟨⟨u, rfl, u0, u1⟩, hl⟩; have L1 := Lib.hid (L0.out.drew.trans hl); have p1 := Lib.hid (hl.blk p0.out hne'); obtain ⟨e1, e2, e3, e4, e5, e6, e7, e8, e9, e10, e11, e12⟩ := Geo.cells6f p1.out)))
  rw [IntWalk.i64_in (x + u) (by omega), IntWalk.i64_in (y + v) (by omega), IntWalk.i64_in (z + r) (by omega)]
  have y1 := Lib.hid (Geo.st6 p3.out (.int .i64 x) (.int .i64 y) (.int .i64 z) (.int .i64 (x + u)) (.int .i64 (y + v)) (.int .i64 (z + r)))
  have y3 := Lib.hid (Geo.st6_below (Below.refl w.heap.size w5) (Nat.le_refl _) (.int .i64 x) (.int .i64 y) (.int .i64 z) (.int .i64 (x + u)) (.int .i64 (y + v)) (.int .i64 (z + r)))
  go_wp2
  refine bodyPost_ret (results_cell_row rfl _ _ w.heap.size _ _ _ _ rfl y1.out rfl (by rfl) rfl) rfl ⟨⟨_, _, _, _, _, _, rfl, ⟨⟨?_, ?_, ?_, ?_, ?_, ?_⟩, ⟨?_, ?_, ?_, ?_, ?_, ?_⟩, ?_, ?_, ?_⟩, ?_, ?_, ?_, x0, x1, y0, y1', z0, z1⟩, Left.past H.out L3.out y3.out⟩
  all_goals omega
end Src
end Go.Proofs.Ytklgnbimfobgkaa
