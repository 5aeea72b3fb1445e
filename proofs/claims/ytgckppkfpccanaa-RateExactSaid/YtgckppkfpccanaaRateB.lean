/- New, the dice's rates, and the examples of the chapter. -/
import Derived.Test.YtgckppkfpccanaaRate
import Derived.Test.YtgckppkfpccanaaRateBN
namespace Go.Proofs.Ytgckppkfpccanaa
open Go.RowKit Dice
namespace Rate
theorem new_ok (a b g : Int) (w : World) (a1 : 1 ≤ a) (a2 : a ≤ 4096) (b1 : 1 ≤ b) (b2 : b ≤ 4096) (hd : Dv a b g) :
    Calls Try.prog 28 #[.int .i64 a, .int .i64 b] w fun e w' => e = .returned (.tuple #[.agg #[.int .i64 (a / g), .int .i64 (b / g)], .int .i64 0]) ∧ Below w.heap.size w w' := by
  obtain ⟨g1, p0, p1, q0, q1, _, G, _⟩ := hd
  have G := Lib.hid G
  go_enter Try.func28, Try.ntmps28
  go_wp2_with (first | (go_at_call 30; refine (within_yes _ _ _ _ (by omega) (by omega)).mono ?_; rintro e w' ⟨rfl, m, rfl⟩) | (go_at_call 31; with_reducible refine (G.out _).mono ?_; rintro e w' ⟨rfl, m, rfl⟩))
  go_region
  go_wp2
  refine bodyPost_ret (v := .tuple #[.agg #[.int .i64 (a / g), .int .i64 (b / g)], .int .i64 0]) ?_ rfl ⟨rfl, Below.setCell (Below.setCell (Buf.below_drewN ((Below.refl _ _).alloc (Nat.le_refl _) _) _) (Nat.le_refl _) _) (Nat.le_refl _) _⟩
  rw [results_cell_tmp rfl]
  go_simp
theorem pick_range {W w : World} {g : Nat} {a : Option Addr} {len cap : Nat} {zs : List Int} (b : Nat) (xs : List Int) (n c : Nat) (h : Di W w g a len cap zs) (hx : Ints w b xs) (hn : n = xs.length) (h0 : 0 < n) (h9 : n ≤ 1000000) (hg : b ≠ g) (hb : b < w.heap.size) (hr : ∀ z ∈ xs, 1 ≤ z ∧ z ≤ 4096) :
    Calls Try.prog 10 #[.pointer (some ⟨g, 0, none⟩), .slice (some ⟨b, 0, none⟩) n c] w fun e w' => (∃ v : Int, e = .returned (.int .i64 v) ∧ 1 ≤ v ∧ v ≤ 4096) ∧ Dice.Left W w w' g a len cap zs :=
  (pick_any b xs n c h hx hn h0 h9 hg hb).mono fun _ _ ⟨⟨v, he, hv⟩, hl⟩ => ⟨⟨v, he, hr v hv⟩, hl⟩
set_option maxRecDepth 100000 in
theorem rate_any {W w : World} {g : Nat} {a : Option Addr} {len cap : Nat} {zs : List Int} (h : Di W w g a len cap zs) :
    Calls Try.prog 9 #[.pointer (some ⟨g, 0, none⟩)] w fun e w' => (∃ n d : Int, e = .returned (.agg #[.int .i64 n, .int .i64 d]) ∧ RV n d) ∧ Dice.Left W w w' g a len cap zs := by
  go_enter Try.func9, Try.ntmps9
  have hg := h.lt
  have h0 := h.below (new_block (.cells #[.int .i64 0, .int .i64 0] 24))
  have e1 : (w.alloc (.cells #[.int .i64 0, .int .i64 0] 24)).heap.size = w.heap.size + 1 := by simp
  have hI := ints_alloc (w.alloc (.cells #[.int .i64 0, .int .i64 0] 24)) [1, 3, 20, 100, 40, 4096, 7] 3
  rw [e1] at hI
  go_wp2_with fail
  refine (pick_range (w.heap.size + 1) [1, 3, 20, 100, 40, 4096, 7] 7 7 (h0.below (new_block _)) hI rfl (by omega) (by omega) (by omega) (by simp) (by decide)).mono ?_
  rintro e w1 ⟨⟨x, rfl, x1, x2⟩, hl⟩
  replace hl := ((Left.refl h0).below (new_block _)).trans hl
  clear hI
  have hlt := hl.di.lt
  have hI := ints_alloc w1 [1, 1, 1, 3, 7, 4096] 3
  go_wp2_with fail
  refine (pick_range w1.heap.size [1, 1, 1, 3, 7, 4096] 6 6 (hl.di.below (new_block _)) hI rfl (by omega) (by omega) (by omega) (by simp) (by decide)).mono ?_
  rintro e w2 ⟨⟨y, rfl, y1, y2⟩, hl2⟩
  replace hl2 := (hl.below (new_block _)).trans hl2
  clear hl hI
  obtain ⟨q, hd, _⟩ := dv_of x y x1 x2 y1 y2
  go_wp2_with fail
  refine (ref_new_ok x y q _ x1 x2 y1 y2 hd).mono ?_
  rintro e w3 ⟨rfl, hb⟩
  have hl3 := hl2.below hb
  have hrv := Lib.hid hd.rv
  clear hd hl2 hb
  generalize x / q = n at *
  generalize y / q = d at *
  have hbox : w3.heap[w.heap.size]? = some (.cells #[.int .i64 0, .int .i64 0] 24 (0, 0)) := by
    rw [hl3.far.block w.heap.size (by simp) (by simp; omega)]; exact heap_alloc_new _ _
  have hlt3 : w.heap.size < w3.heap.size := World.block_lt_of_cell? w3 _ (cell_of_row w3 w.heap.size 0 _ _ _ hbox)
  have hbox2 : (w3.alloc (.cells #[.int .i64 n, .int .i64 d] 24)).heap[w.heap.size]? = some (.cells #[.int .i64 0, .int .i64 0] 24 (0, 0)) := by
    rw [heap_alloc_old (h := hlt3)]; exact hbox
  have hbox3 : ((w3.setCell ⟨w.heap.size, 0, none⟩ (.int .i64 n)).alloc (.cells #[.int .i64 n, .int .i64 d] 24)).heap[w.heap.size]? = some (.cells #[.int .i64 n, .int .i64 0] 24 (0, 0)) := by
    rw [heap_alloc_old (h := by simpa [World.setCell] using hlt3)]
    exact (heap_setCell_same w3 w.heap.size 0 _ _ (.int .i64 n) hbox).trans rfl
  have c0 : (w3.alloc (.cells #[.int .i64 n, .int .i64 d] 24)).cell? ⟨w.heap.size, 0, none⟩ = some (.int .i64 0) := cell_of_row _ w.heap.size 0 _ _ _ hbox2
  have f0 := frozen_of_row _ w.heap.size 0 _ _ hbox2
  have c1 : ((w3.setCell ⟨w.heap.size, 0, none⟩ (.int .i64 n)).alloc (.cells #[.int .i64 n, .int .i64 d] 24)).cell? ⟨w.heap.size, 1, none⟩ = some (.int .i64 0) := cell_of_row _ w.heap.size 1 _ _ _ hbox3
  have f1 := frozen_of_row _ w.heap.size 1 _ _ hbox3
  have hbox4 : (((w3.setCell ⟨w.heap.size, 0, none⟩ (.int .i64 n)).setCell ⟨w.heap.size, 1, none⟩ (.int .i64 d)).alloc (.cells #[.int .i64 n, .int .i64 d] 24)).heap[w.heap.size]? = some (.cells #[.int .i64 n, .int .i64 d] 24 (0, 0)) := by
    rw [heap_alloc_old (h := by simpa [World.setCell] using hlt3)]
    exact (heap_setCell_same _ w.heap.size 1 _ _ (.int .i64 d) ((heap_setCell_same w3 w.heap.size 0 _ _ (.int .i64 n) hbox).trans rfl)).trans rfl
  have HB := Lib.hid hbox4
  clear hbox hbox2 hbox3 hbox4
  go_wp2
  refine bodyPost_ret (v := .agg #[.int .i64 n, .int .i64 d]) (results_cell_row rfl _ _ w.heap.size _ _ _ _ rfl HB.out rfl (by rfl) rfl) rfl ⟨⟨n, d, rfl, hrv.out⟩, ?_⟩
  refine Left.past h ((Left.refl h |>.below (new_block _)).trans hl3) (Below.alloc ?_ ?_ _)
  · refine Below.setCell (Below.setCell (Below.refl _ _) ?_ _) ?_ _ <;> exact Nat.le_refl _
  · simp [World.setCell]; omega
theorem sane_any (w : World) : Calls Try.prog 7 #[] w fun e w' => e = .returned (.bool true) ∧ Below w.heap.size w w' := by
  have hrv : RV 3 1 := ⟨by decide, by decide, by decide, by decide, by decide⟩
  obtain ⟨q, hd, hq⟩ := dv_of 6 2 (by decide) (by decide) (by decide) (by decide)
  obtain rfl : q = 2 := by rw [hq]; decide
  have H1 : Hid (∀ w, Calls Try.prog 28 #[.int .i64 6, .int .i64 2] w fun e w' => e = .returned (.tuple #[.agg #[.int .i64 3, .int .i64 1], .int .i64 0]) ∧ Below w.heap.size w w') :=
    Lib.hid fun w => new_ok 6 2 2 w (by decide) (by decide) (by decide) (by decide) hd
  have H2 : Hid (∀ w, Calls Try.prog 14 #[.int .i64 0, .agg #[.int .i64 3, .int .i64 1], .int .i64 2] w fun e w' => e = .returned (.tuple #[.int .i64 666666, .int .i64 0]) ∧ Below w.heap.size w w') :=
    Lib.hid fun w => time_ok 0 3 1 2 hrv w (by decide) (by decide) (by decide) (by decide)
  have H3 : Hid (∀ w, Calls Try.prog 20 #[.int .i64 0, .agg #[.int .i64 3, .int .i64 1], .int .i64 500000] w fun e w' => e = .returned (.tuple #[.int .i64 2, .int .i64 (-166666), .int .i64 0]) ∧ Below w.heap.size w w') :=
    Lib.hid fun w => nearest_ok 0 3 1 500000 hrv w (by decide) (by decide) (by decide) (by decide)
  clear hrv hd hq
  go_enter Try.func7, Try.ntmps7
  go_wp2_with (first | (go_at_call 28; with_reducible refine (H1.out _).mono ?_; rintro e w1 ⟨rfl, hb1⟩) | (go_at_call 14; with_reducible refine (H2.out _).mono ?_; rintro e w2 ⟨rfl, hb2⟩; have hW : Below (w1.heap.size + 1) (w1.alloc (.cells #[.int .i64 3, .int .i64 1] 24)) w2 := (by simpa using hb2); obtain ⟨c0, c1⟩ := boxed hW) | (go_at_call 20; with_reducible refine (H3.out _).mono ?_; rintro e w3 ⟨rfl, hb3⟩; replace hW := boxed_next hW hb3; obtain ⟨c2, c3⟩ := boxed hW))
  go_ret
  exact ⟨rfl, Buf.then_ hb1 (boxed_out hW)⟩
end Rate
end Go.Proofs.Ytgckppkfpccanaa
