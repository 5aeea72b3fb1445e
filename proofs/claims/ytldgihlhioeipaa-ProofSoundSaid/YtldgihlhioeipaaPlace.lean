/- Contracts of the reader of numbers: Pick, Place, Position. -/
import Derived.Test.YtldgihlhioeipaaGeoAI
import Derived.Test.YtldgihlhioeipaaSrc
namespace Go.Proofs.Ytldgihlhioeipaa
open Go.RowKit
namespace Src
theorem Left.blk {W w w' : World} {g : Nat} {a : Option Addr} {len cap : Nat} {zs : List Int} (l : Left W w w' g a len cap zs) {k : Nat} {o : Obj} (hk : w.heap[k]? = some o) (hne : k ≠ g) : w'.heap[k]? = some o :=
  (l.far.block k (Array.getElem?_eq_some_iff.1 hk).1 (by simpa using hne)).trans hk
theorem Left.cell {W w w' : World} {g : Nat} {a : Option Addr} {len cap : Nat} {zs : List Int} (l : Left W w w' g a len cap zs) {k o : Nat} {v : Value} (hne : k ≠ g) (hk : w.cell? ⟨k, o, none⟩ = some v) : w'.cell? ⟨k, o, none⟩ = some v :=
  (World.cell?_of_block (a := ⟨k, o, none⟩) (l.far.block k (World.block_lt_of_cell? w _ hk) (by simpa using hne))).trans hk
theorem Left.alloc {W w w' : World} {g : Nat} {a : Option Addr} {len cap : Nat} {zs : List Int} (l : Left W w w' g a len cap zs) (o : Obj) : Left W w (w'.alloc o) g a len cap zs := l.below (new_block o)
theorem Left.drew {W w w' : World} {g : Nat} {a : Option Addr} {len cap : Nat} {zs : List Int} (l : Left W w w' g a len cap zs) : Left W w w'.drew g a len cap zs := l.below ((Below.refl _ _).drew)
/-- What Pick returns. -/
def Picked (xs : List Int) (e : Ending) : Prop := ∃ v : Int, e = .returned (.int .i64 v) ∧ v ∈ xs
set_option maxRecDepth 100000 in
theorem pick_any {W w : World} {g : Nat} {a : Option Addr} {len cap : Nat} {zs : List Int} (b : Nat) (xs : List Int) (n c : Nat) (h : Di W w g a len cap zs) (hx : Ints w b xs) (hn : n = xs.length) (h0 : 0 < n) (h9 : n ≤ 1000000) (hg : b ≠ g) (hb : b < w.heap.size) :
    Calls Try.prog 19 #[.pointer (some ⟨g, 0, none⟩), .slice (some ⟨b, 0, none⟩) n c] w fun e w' => Picked xs e ∧ Left W w w' g a len cap zs := by
  have H := Lib.hid h
  have HN := Lib.hid hn
  clear h hn
  go_enter Try.func19, Try.ntmps19
  go_wp2_with fail
  refine (n_any (n : Int) H.out (by omega) (by omega)).mono ?_
  rintro e w1 ⟨⟨v, rfl, v0, v1⟩, hl⟩
  obtain ⟨k, rfl⟩ := Int.eq_ofNat_of_zero_le v0
  have hk : k < n := by omega
  have hc : w1.cell? ⟨b, k, none⟩ = some (.int .i64 (xs.getD k 0)) := by
    rw [World.cell?_of_block (a := ⟨b, k, none⟩) (hl.far.block b hb (by simpa using hg))]
    exact hx k (by rw [← HN.out]; exact hk)
  have hm : Hid (xs.getD k 0 ∈ xs) := by
    have hl : k < xs.length := by rw [← HN.out]; exact hk
    have : xs.getD k 0 = xs[k] := by simp [List.getD, hl]
    show _ ∈ _
    rw [this]; exact List.getElem_mem _
  generalize xs.getD k 0 = u at hc hm
  go_wp2
  go_ret
  exact ⟨⟨u, rfl, hm.out⟩, hl⟩
/-- What Place returns. -/
def Placed (m : Int) (e : Ending) : Prop := ∃ x y z : Int, e = .returned (.agg #[.int .i64 x, .int .i64 y, .int .i64 z]) ∧ -m ≤ x ∧ x ≤ m ∧ -m ≤ y ∧ y ≤ m ∧ 0 ≤ z ∧ z ≤ m
set_option maxHeartbeats 1000000 in
set_option maxRecDepth 100000 in
theorem place_any {W w : World} {g : Nat} {a : Option Addr} {len cap : Nat} {zs : List Int} (m : Int) (h : Di W w g a len cap zs) (m0 : 0 ≤ m) (m1 : m ≤ 1048576) :
    Calls Try.prog 37 #[.pointer (some ⟨g, 0, none⟩), .int .i64 m] w fun e w' => Placed m e ∧ Left W w w' g a len cap zs := by
  have H := Lib.hid h
  have hne : Hid (w.heap.size ≠ g) := Lib.hid (by have := h.lt; omega)
  have L0 := Lib.hid ((Left.refl h).alloc (.cells #[.int .i64 0, .int .i64 0, .int .i64 0] 24))
  have p0 := Lib.hid (Geo.blk_new w (.cells #[.int .i64 0, .int .i64 0, .int .i64 0] 24))
  clear h
  go_enter Try.func37, Try.ntmps37
  go_wp2_with fail
  refine (n_any _ L0.out.di (by omega) (by omega)).mono ?_
  rintro e w1 ⟨⟨x, rfl, x0, x1⟩, hl⟩
  replace p0 := Lib.hid (hl.blk p0.out hne.out)
  replace L0 := Lib.hid (L0.out.trans hl)
  clear hl
  go_wp2_with fail
  refine (n_any _ L0.out.di (by omega) (by omega)).mono ?_
  rintro e w2 ⟨⟨y, rfl, y0, y1⟩, hl⟩
  replace p0 := Lib.hid (hl.blk p0.out hne.out)
  replace L0 := Lib.hid (L0.out.trans hl)
  clear hl
  go_wp2_with fail
  refine (n_any _ L0.out.di (by omega) (by omega)).mono ?_
  rintro e w3 ⟨⟨z, rfl, z0, z1⟩, hl⟩
  replace p0 := Lib.hid (hl.blk p0.out hne.out)
  replace L0 := Lib.hid (L0.out.trans hl)
  clear hl
  obtain ⟨c1, c2, c3, f1, f2, f3⟩ := Geo.cells3 p0.out
  go_wp2
  exact bodyPost_ret (results_cell_row rfl _ _ w.heap.size _ _ _ _ rfl (Geo.st3 p0.out _ _ _) rfl (by rfl) rfl) rfl ⟨⟨_, _, _, rfl, by omega, by omega, by omega, by omega, by omega, by omega⟩, Left.past H.out L0.out (Geo.st3_below (Below.refl _ _) (Nat.le_refl _) _ _ _)⟩
end Src
end Go.Proofs.Ytldgihlhioeipaa
