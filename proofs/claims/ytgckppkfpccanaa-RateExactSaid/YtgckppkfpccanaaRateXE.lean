/- Slower and New at any input, of the program and of the reference. -/
import Derived.Test.YtgckppkfpccanaaRateXD
import Derived.Test.YtgckppkfpccanaaRateCN
import Derived.Test.YtgckppkfpccanaaRateB
namespace Go.Proofs.Ytgckppkfpccanaa
open Go.RowKit Dice
namespace Rate
set_option linter.unusedVariables false
set_option maxRecDepth 100000 in
theorem slower_inv (n d m : Int) (h : ¬ RV n d) (w : World) :
    Calls Try.prog 24 #[.agg #[.int .i64 n, .int .i64 d], .int .i64 m] w fun e w' => e = .returned (.tuple #[.agg #[.int .i64 0, .int .i64 0], .int .i64 1]) ∧ Below w.heap.size w w' := by
  go_enter Try.func24, Try.ntmps24
  go_wp2_with (first | (go_at_call 11; refine (valid_no n d h _).mono ?_; rintro e w1 ⟨rfl, hb⟩; have hW : Below (w.heap.size + 2) ((w.alloc (.cells #[.int .i64 n, .int .i64 d] 24)).alloc (.cells #[.int .i64 0, .int .i64 0] 24)) w1 := (by simpa using hb); clear hb; obtain ⟨z0, z1, z2, z3, z4⟩ := store2 hW (.int .i64 0) (.int .i64 0); replace z4 := Lib.hid z4))
  refine bodyPost_ret (results_row_tmp rfl _ _ (w.heap.size + 1) _ _ _ _ rfl z4.out rfl (by rfl) rfl) rfl ⟨rfl, ?_⟩
  exact (boxed2_out hW).trans (by refine Below.setCell (Below.setCell (Below.refl _ _) ?_ _) ?_ _ <;> simp)
set_option maxRecDepth 100000 in
theorem slower_out (n d m : Int) (h : RV n d) (s : m < 1 ∨ 64 < m) (w : World) :
    Calls Try.prog 24 #[.agg #[.int .i64 n, .int .i64 d], .int .i64 m] w fun e w' => e = .returned (.tuple #[.agg #[.int .i64 0, .int .i64 0], .int .i64 2]) ∧ Below w.heap.size w w' := by
  go_enter Try.func24, Try.ntmps24
  go_wp2_with (first | (go_at_call 11; refine (valid_yes n d h _).mono ?_; rintro e w1 ⟨rfl, hb⟩; have hW : Below (w.heap.size + 2) ((w.alloc (.cells #[.int .i64 n, .int .i64 d] 24)).alloc (.cells #[.int .i64 0, .int .i64 0] 24)) w1 := (by simpa using hb); clear hb; obtain ⟨z0, z1, z2, z3, z4⟩ := store2 hW (.int .i64 0) (.int .i64 0); replace z4 := Lib.hid z4) | (go_at_call 30; refine (within_no _ _ _ _ (by omega)).mono ?_; rintro e w' ⟨rfl, mm, rfl⟩; replace hW := Buf.below_drewN hW mm; clear z0 z1 z2 z3 z4; obtain ⟨z0, z1, z2, z3, z4⟩ := store2 hW (.int .i64 0) (.int .i64 0); replace z4 := Lib.hid z4))
  refine bodyPost_ret (results_row_tmp rfl _ _ (w.heap.size + 1) _ _ _ _ rfl z4.out rfl (by rfl) rfl) rfl ⟨rfl, ?_⟩
  exact (boxed2_out hW).trans (by refine Below.setCell (Below.setCell (Below.refl _ _) ?_ _) ?_ _ <;> simp)
set_option maxRecDepth 100000 in
theorem refslower_inv (n d m : Int) (h : ¬ RV n d) (w : World) :
    Calls Try.prog 25 #[.agg #[.int .i64 n, .int .i64 d], .int .i64 m] w fun e w' => e = .returned (.tuple #[.agg #[.int .i64 0, .int .i64 0], .int .i64 1]) ∧ Below w.heap.size w w' := by
  go_enter Try.func25, Try.ntmps25
  go_wp2_with (first | (go_at_call 12; refine (refvalid_no n d h _).mono ?_; rintro e w1 ⟨rfl, hb⟩; have hW : Below (w.heap.size + 2) ((w.alloc (.cells #[.int .i64 n, .int .i64 d] 24)).alloc (.cells #[.int .i64 0, .int .i64 0] 24)) w1 := (by simpa using hb); clear hb; obtain ⟨z0, z1, z2, z3, z4⟩ := store2 hW (.int .i64 0) (.int .i64 0); replace z4 := Lib.hid z4))
  refine bodyPost_ret (results_row_tmp rfl _ _ (w.heap.size + 1) _ _ _ _ rfl z4.out rfl (by rfl) rfl) rfl ⟨rfl, ?_⟩
  exact (boxed2_out hW).trans (by refine Below.setCell (Below.setCell (Below.refl _ _) ?_ _) ?_ _ <;> simp)
set_option maxRecDepth 100000 in
theorem refslower_out (n d m : Int) (h : RV n d) (s : m < 1 ∨ 64 < m) (w : World) :
    Calls Try.prog 25 #[.agg #[.int .i64 n, .int .i64 d], .int .i64 m] w fun e w' => e = .returned (.tuple #[.agg #[.int .i64 0, .int .i64 0], .int .i64 2]) ∧ Below w.heap.size w w' := by
  go_enter Try.func25, Try.ntmps25
  go_wp2_with (first | (go_at_call 12; refine (refvalid_yes n d h _).mono ?_; rintro e w1 ⟨rfl, hb⟩; have hW : Below (w.heap.size + 2) ((w.alloc (.cells #[.int .i64 n, .int .i64 d] 24)).alloc (.cells #[.int .i64 0, .int .i64 0] 24)) w1 := (by simpa using hb); clear hb; obtain ⟨z0, z1, z2, z3, z4⟩ := store2 hW (.int .i64 0) (.int .i64 0); replace z4 := Lib.hid z4) | (go_at_call 32; refine (in_no _ _ _ _ (by omega)).mono ?_; rintro e w' ⟨rfl, mm, rfl⟩; replace hW := Buf.below_drewN hW mm; clear z0 z1 z2 z3 z4; obtain ⟨z0, z1, z2, z3, z4⟩ := store2 hW (.int .i64 0) (.int .i64 0); replace z4 := Lib.hid z4))
  refine bodyPost_ret (results_row_tmp rfl _ _ (w.heap.size + 1) _ _ _ _ rfl z4.out rfl (by rfl) rfl) rfl ⟨rfl, ?_⟩
  exact (boxed2_out hW).trans (by refine Below.setCell (Below.setCell (Below.refl _ _) ?_ _) ?_ _ <;> simp)
theorem refvalid_den (n d : Int) (w : World) (n1 : 1 ≤ n) (n2 : n ≤ 4096) (d1 : 4096 < d) :
    Calls Try.prog 12 #[.agg #[.int .i64 n, .int .i64 d]] w fun e w' => e = .returned (.bool false) ∧ Below w.heap.size w w' := by
  go_enter Try.func12, Try.ntmps12
  go_wp2_with (first | (go_at_call 32; refine (in_yes _ _ _ _ (by omega) (by omega)).mono ?_; rintro e w' ⟨rfl, m, rfl⟩) | (go_at_call 32; refine (in_no _ _ _ _ (by omega)).mono ?_; rintro e w' ⟨rfl, m, rfl⟩))
  go_ret
  exact ⟨rfl, Buf.below_drewN ((Below.refl _ _).alloc (Nat.le_refl _) _) _⟩
set_option linter.unusedVariables false in
set_option maxRecDepth 100000 in
theorem refslower_yes (n d m g A B : Int) (h : RV n d) (w : World) (m1 : 1 ≤ m) (m2 : m ≤ 64)
    (hg : 1 ≤ g) (hA1 : 1 ≤ n / g) (hA2 : n / g ≤ 4096) (hB1 : 1 ≤ d * m / g) (hB2 : d * m / g ≤ 4096 * 64) (hA : Hid (n / g = A)) (hBq : Hid (d * m / g = B)) (hco : RV A B)
    (G : ∀ w, Calls Try.prog 33 #[.int .i64 n, .int .i64 (d * m)] w fun e w' => e = .returned (.int .i64 g) ∧ ∃ m, w' = w.drewN m) :
    Calls Try.prog 25 #[.agg #[.int .i64 n, .int .i64 d], .int .i64 m] w fun e w' => e = .returned (.tuple #[.agg #[.int .i64 A, .int .i64 B], .int .i64 0]) ∧ Below w.heap.size w w' := by
  obtain ⟨n1, n2, d1, d2, _⟩ := id h
  have dm0 : 1 * 1 ≤ d * m := Int.mul_le_mul d1 m1 (by omega) (by omega)
  have dm1 : d * m ≤ 4096 * 64 := Int.mul_le_mul d2 m2 (by omega) (by omega)
  have G := Lib.hid G
  go_enter Try.func25, Try.ntmps25
  go_wp2_with (first | (go_at_call 12; refine (refvalid_yes n d h _).mono ?_; rintro e w1 ⟨rfl, hb⟩; have hW : Below (w.heap.size + 2) ((w.alloc (.cells #[.int .i64 n, .int .i64 d] 24)).alloc (.cells #[.int .i64 0, .int .i64 0] 24)) w1 := (by simpa using hb); clear hb; obtain ⟨⟨c0, c1⟩, hB⟩ := boxed2 hW; replace hB := Lib.hid hB) | (go_at_call 32; refine (in_yes _ _ _ _ (by omega) (by omega)).mono ?_; rintro e w' ⟨rfl, mm, rfl⟩) | (go_at_call 33; with_reducible refine (G.out _).mono ?_; rintro e w' ⟨rfl, m2, rfl⟩))
  have hlt : w.heap.size < w1.heap.size := World.block_lt_of_cell? w1 _ c1
  have c0' : ∀ k, ((w1.drewN k).alloc (.cells #[.int .i64 0, .int .i64 0] 24)).cell? ⟨w.heap.size, 0, none⟩ = some (.int .i64 n) := fun k =>
    (World.cell?_of_block (w := w1.drewN k) (a := ⟨w.heap.size, 0, none⟩) (heap_alloc_old (w1.drewN k) _ hlt)).trans c0
  have c1' : ∀ k, ((w1.drewN k).alloc (.cells #[.int .i64 0, .int .i64 0] 24)).cell? ⟨w.heap.size, 1, none⟩ = some (.int .i64 d) := fun k =>
    (World.cell?_of_block (w := w1.drewN k) (a := ⟨w.heap.size, 1, none⟩) (heap_alloc_old (w1.drewN k) _ hlt)).trans c1
  have hn : ∀ k, ((w1.drewN k).alloc (.cells #[.int .i64 0, .int .i64 0] 24)).heap[w1.heap.size]? = some (.cells #[.int .i64 0, .int .i64 0] 24 (0, 0)) := fun k => heap_alloc_new (w1.drewN k) _
  have hn1 : ∀ k v, (((w1.drewN k).alloc (.cells #[.int .i64 0, .int .i64 0] 24)).setCell ⟨w1.heap.size, 0, none⟩ v).heap[w1.heap.size]? = some (.cells #[v, .int .i64 0] 24 (0, 0)) := fun k v => (heap_setCell_same _ w1.heap.size 0 _ _ v (hn k)).trans rfl
  have n0' : ∀ k, ((w1.drewN k).alloc (.cells #[.int .i64 0, .int .i64 0] 24)).cell? ⟨w1.heap.size, 0, none⟩ = some (.int .i64 0) := fun k => cell_of_row _ _ 0 _ _ _ (hn k)
  have f0' : ∀ k, ((w1.drewN k).alloc (.cells #[.int .i64 0, .int .i64 0] 24)).frozen? ⟨w1.heap.size, 0, none⟩ = false := fun k => frozen_of_row _ _ 0 _ _ (hn k)
  have n1' : ∀ k v, (((w1.drewN k).alloc (.cells #[.int .i64 0, .int .i64 0] 24)).setCell ⟨w1.heap.size, 0, none⟩ v).cell? ⟨w1.heap.size, 1, none⟩ = some (.int .i64 0) := fun k v => cell_of_row _ _ 1 _ _ _ (hn1 k v)
  have f1' : ∀ k v, (((w1.drewN k).alloc (.cells #[.int .i64 0, .int .i64 0] 24)).setCell ⟨w1.heap.size, 0, none⟩ v).frozen? ⟨w1.heap.size, 1, none⟩ = false := fun k v => frozen_of_row _ _ 1 _ _ (hn1 k v)
  replace hn := Lib.hid hn
  replace hn1 := Lib.hid hn1
  go_region
  have hX1 : ∀ k u v, ((((w1.drewN k).alloc (.cells #[.int .i64 0, .int .i64 0] 24)).setCell ⟨w1.heap.size, 0, none⟩ u).setCell ⟨w1.heap.size, 1, none⟩ v).heap[w1.heap.size]? = some (.cells #[u, v] 24 (0, 0)) := fun k u v => (heap_setCell_same _ w1.heap.size 1 _ _ v (hn1.out k u)).trans rfl
  have hX2 : ∀ k u v, Below w1.heap.size w1 ((((w1.drewN k).alloc (.cells #[.int .i64 0, .int .i64 0] 24)).setCell ⟨w1.heap.size, 0, none⟩ u).setCell ⟨w1.heap.size, 1, none⟩ v) := fun k u v => by
    refine Below.setCell (Below.setCell (Below.alloc (Buf.below_drewN (Below.refl _ _) k) ?_ _) ?_ _) ?_ _ <;> exact Nat.le_refl _
  specialize hX1 (mm + m2 + 1) (.int .i64 (n / g)) (.int .i64 (d * m / g))
  specialize hX2 (mm + m2 + 1) (.int .i64 (n / g)) (.int .i64 (d * m / g))
  rw [hA.out, hBq.out] at hX1 hX2 ⊢
  rw [hA.out] at hA1 hA2
  rw [hBq.out] at hB1 hB2
  clear c0' c1' n0' f0' n1' f1' hn hn1 c0 c1 G
  generalize (((w1.drewN (mm + m2 + 1)).alloc (.cells #[.int .i64 0, .int .i64 0] 24)).setCell ⟨w1.heap.size, 0, none⟩ (.int .i64 A)).setCell ⟨w1.heap.size, 1, none⟩ (.int .i64 B) = wx at *
  have x0 : wx.cell? ⟨w1.heap.size, 0, none⟩ = some (.int .i64 A) := cell_of_row _ _ 0 _ _ _ hX1
  have x1 : wx.cell? ⟨w1.heap.size, 1, none⟩ = some (.int .i64 B) := cell_of_row _ _ 1 _ _ _ hX1
  have hltx : w1.heap.size < wx.heap.size := World.block_lt_of_cell? wx _ x0
  replace hX1 := Lib.hid hX1
  have hW2 := boxed2_next hW hX2
  have V := Lib.hid fun w => refvalid_yes A B hco w
  go_wp2_with fail
  with_reducible refine (V.out _).mono ?_
  rintro e w2 ⟨rfl, hb⟩
  have hW3 := boxed2_next hW2 hb
  have y0 : w2.cell? ⟨w1.heap.size, 0, none⟩ = some (.int .i64 A) := (hb.cell (p := ⟨w1.heap.size, 0, none⟩) hltx).trans x0
  have y1 : w2.cell? ⟨w1.heap.size, 1, none⟩ = some (.int .i64 B) := (hb.cell (p := ⟨w1.heap.size, 1, none⟩) hltx).trans x1
  obtain ⟨z0, z1, z2, z3, z4⟩ := store2 hW3 (.int .i64 A) (.int .i64 B)
  replace z4 := Lib.hid z4
  go_wp2
  refine bodyPost_ret (results_row_tmp rfl _ _ (w.heap.size + 1) _ _ _ _ rfl z4.out rfl (by rfl) rfl) rfl ⟨rfl, ?_⟩
  exact (boxed2_out hW3).trans (by refine Below.setCell (Below.setCell (Below.refl _ _) ?_ _) ?_ _ <;> simp)
set_option linter.unusedVariables false in
set_option maxRecDepth 100000 in
theorem refslower_no (n d m g A B : Int) (h : RV n d) (w : World) (m1 : 1 ≤ m) (m2 : m ≤ 64)
    (hg : 1 ≤ g) (hA1 : 1 ≤ n / g) (hA2 : n / g ≤ 4096) (hB1 : 1 ≤ d * m / g) (hB2 : d * m / g ≤ 4096 * 64) (hA : Hid (n / g = A)) (hBq : Hid (d * m / g = B)) (hco : 4096 < B)
    (G : ∀ w, Calls Try.prog 33 #[.int .i64 n, .int .i64 (d * m)] w fun e w' => e = .returned (.int .i64 g) ∧ ∃ m, w' = w.drewN m) :
    Calls Try.prog 25 #[.agg #[.int .i64 n, .int .i64 d], .int .i64 m] w fun e w' => e = .returned (.tuple #[.agg #[.int .i64 0, .int .i64 0], .int .i64 8]) ∧ Below w.heap.size w w' := by
  obtain ⟨n1, n2, d1, d2, _⟩ := id h
  have dm0 : 1 * 1 ≤ d * m := Int.mul_le_mul d1 m1 (by omega) (by omega)
  have dm1 : d * m ≤ 4096 * 64 := Int.mul_le_mul d2 m2 (by omega) (by omega)
  have G := Lib.hid G
  go_enter Try.func25, Try.ntmps25
  go_wp2_with (first | (go_at_call 12; refine (refvalid_yes n d h _).mono ?_; rintro e w1 ⟨rfl, hb⟩; have hW : Below (w.heap.size + 2) ((w.alloc (.cells #[.int .i64 n, .int .i64 d] 24)).alloc (.cells #[.int .i64 0, .int .i64 0] 24)) w1 := (by simpa using hb); clear hb; obtain ⟨⟨c0, c1⟩, hB⟩ := boxed2 hW; replace hB := Lib.hid hB) | (go_at_call 32; refine (in_yes _ _ _ _ (by omega) (by omega)).mono ?_; rintro e w' ⟨rfl, mm, rfl⟩) | (go_at_call 33; with_reducible refine (G.out _).mono ?_; rintro e w' ⟨rfl, m2, rfl⟩))
  have hlt : w.heap.size < w1.heap.size := World.block_lt_of_cell? w1 _ c1
  have c0' : ∀ k, ((w1.drewN k).alloc (.cells #[.int .i64 0, .int .i64 0] 24)).cell? ⟨w.heap.size, 0, none⟩ = some (.int .i64 n) := fun k =>
    (World.cell?_of_block (w := w1.drewN k) (a := ⟨w.heap.size, 0, none⟩) (heap_alloc_old (w1.drewN k) _ hlt)).trans c0
  have c1' : ∀ k, ((w1.drewN k).alloc (.cells #[.int .i64 0, .int .i64 0] 24)).cell? ⟨w.heap.size, 1, none⟩ = some (.int .i64 d) := fun k =>
    (World.cell?_of_block (w := w1.drewN k) (a := ⟨w.heap.size, 1, none⟩) (heap_alloc_old (w1.drewN k) _ hlt)).trans c1
  have hn : ∀ k, ((w1.drewN k).alloc (.cells #[.int .i64 0, .int .i64 0] 24)).heap[w1.heap.size]? = some (.cells #[.int .i64 0, .int .i64 0] 24 (0, 0)) := fun k => heap_alloc_new (w1.drewN k) _
  have hn1 : ∀ k v, (((w1.drewN k).alloc (.cells #[.int .i64 0, .int .i64 0] 24)).setCell ⟨w1.heap.size, 0, none⟩ v).heap[w1.heap.size]? = some (.cells #[v, .int .i64 0] 24 (0, 0)) := fun k v => (heap_setCell_same _ w1.heap.size 0 _ _ v (hn k)).trans rfl
  have n0' : ∀ k, ((w1.drewN k).alloc (.cells #[.int .i64 0, .int .i64 0] 24)).cell? ⟨w1.heap.size, 0, none⟩ = some (.int .i64 0) := fun k => cell_of_row _ _ 0 _ _ _ (hn k)
  have f0' : ∀ k, ((w1.drewN k).alloc (.cells #[.int .i64 0, .int .i64 0] 24)).frozen? ⟨w1.heap.size, 0, none⟩ = false := fun k => frozen_of_row _ _ 0 _ _ (hn k)
  have n1' : ∀ k v, (((w1.drewN k).alloc (.cells #[.int .i64 0, .int .i64 0] 24)).setCell ⟨w1.heap.size, 0, none⟩ v).cell? ⟨w1.heap.size, 1, none⟩ = some (.int .i64 0) := fun k v => cell_of_row _ _ 1 _ _ _ (hn1 k v)
  have f1' : ∀ k v, (((w1.drewN k).alloc (.cells #[.int .i64 0, .int .i64 0] 24)).setCell ⟨w1.heap.size, 0, none⟩ v).frozen? ⟨w1.heap.size, 1, none⟩ = false := fun k v => frozen_of_row _ _ 1 _ _ (hn1 k v)
  replace hn := Lib.hid hn
  replace hn1 := Lib.hid hn1
  go_region
  have hX1 : ∀ k u v, ((((w1.drewN k).alloc (.cells #[.int .i64 0, .int .i64 0] 24)).setCell ⟨w1.heap.size, 0, none⟩ u).setCell ⟨w1.heap.size, 1, none⟩ v).heap[w1.heap.size]? = some (.cells #[u, v] 24 (0, 0)) := fun k u v => (heap_setCell_same _ w1.heap.size 1 _ _ v (hn1.out k u)).trans rfl
  have hX2 : ∀ k u v, Below w1.heap.size w1 ((((w1.drewN k).alloc (.cells #[.int .i64 0, .int .i64 0] 24)).setCell ⟨w1.heap.size, 0, none⟩ u).setCell ⟨w1.heap.size, 1, none⟩ v) := fun k u v => by
    refine Below.setCell (Below.setCell (Below.alloc (Buf.below_drewN (Below.refl _ _) k) ?_ _) ?_ _) ?_ _ <;> exact Nat.le_refl _
  specialize hX1 (mm + m2 + 1) (.int .i64 (n / g)) (.int .i64 (d * m / g))
  specialize hX2 (mm + m2 + 1) (.int .i64 (n / g)) (.int .i64 (d * m / g))
  rw [hA.out, hBq.out] at hX1 hX2 ⊢
  rw [hA.out] at hA1 hA2
  rw [hBq.out] at hB1 hB2
  clear c0' c1' n0' f0' n1' f1' hn hn1 c0 c1 G
  generalize (((w1.drewN (mm + m2 + 1)).alloc (.cells #[.int .i64 0, .int .i64 0] 24)).setCell ⟨w1.heap.size, 0, none⟩ (.int .i64 A)).setCell ⟨w1.heap.size, 1, none⟩ (.int .i64 B) = wx at *
  have x0 : wx.cell? ⟨w1.heap.size, 0, none⟩ = some (.int .i64 A) := cell_of_row _ _ 0 _ _ _ hX1
  have x1 : wx.cell? ⟨w1.heap.size, 1, none⟩ = some (.int .i64 B) := cell_of_row _ _ 1 _ _ _ hX1
  have hltx : w1.heap.size < wx.heap.size := World.block_lt_of_cell? wx _ x0
  replace hX1 := Lib.hid hX1
  have hW2 := boxed2_next hW hX2
  have V := Lib.hid fun w => refvalid_den A B w hA1 hA2 hco
  go_wp2_with fail
  with_reducible refine (V.out _).mono ?_
  rintro e w2 ⟨rfl, hb⟩
  have hW3 := boxed2_next hW2 hb
  have y0 : w2.cell? ⟨w1.heap.size, 0, none⟩ = some (.int .i64 A) := (hb.cell (p := ⟨w1.heap.size, 0, none⟩) hltx).trans x0
  have y1 : w2.cell? ⟨w1.heap.size, 1, none⟩ = some (.int .i64 B) := (hb.cell (p := ⟨w1.heap.size, 1, none⟩) hltx).trans x1
  obtain ⟨z0, z1, z2, z3, z4⟩ := store2 hW3 (.int .i64 0) (.int .i64 0)
  replace z4 := Lib.hid z4
  go_wp2
  refine bodyPost_ret (results_row_tmp rfl _ _ (w.heap.size + 1) _ _ _ _ rfl z4.out rfl (by rfl) rfl) rfl ⟨rfl, ?_⟩
  exact (boxed2_out hW3).trans (by refine Below.setCell (Below.setCell (Below.refl _ _) ?_ _) ?_ _ <;> simp)
theorem slow_both (n d m : Int) (h : RV n d) (m1 : 1 ≤ m) (m2 : m ≤ 64) : ∃ A B e : Int, (∀ w, Calls Try.prog 24 #[.agg #[.int .i64 n, .int .i64 d], .int .i64 m] w fun x w' => x = .returned (.tuple #[.agg #[.int .i64 A, .int .i64 B], .int .i64 e]) ∧ Below w.heap.size w w') ∧ (∀ w, Calls Try.prog 25 #[.agg #[.int .i64 n, .int .i64 d], .int .i64 m] w fun x w' => x = .returned (.tuple #[.agg #[.int .i64 A, .int .i64 B], .int .i64 e]) ∧ Below w.heap.size w w') := by
  obtain ⟨n1, n2, d1, d2, _⟩ := id h
  obtain ⟨N, rfl⟩ := Int.eq_ofNat_of_zero_le (show 0 ≤ n by omega)
  obtain ⟨D, hD⟩ := Int.eq_ofNat_of_zero_le (show 0 ≤ d * m from Int.mul_nonneg (by omega) (by omega))
  have dm0 : 1 * 1 ≤ d * m := Int.mul_le_mul d1 m1 (by omega) (by omega)
  have dm1 : d * m ≤ 4096 * 64 := Int.mul_le_mul d2 m2 (by omega) (by omega)
  have g0 : 0 < Nat.gcd N D := Nat.gcd_pos_of_pos_left _ (by omega)
  have ga : Nat.gcd N D ≤ N := Nat.gcd_le_left _ (by omega)
  have gb : Nat.gcd N D ≤ D := Nat.gcd_le_right _ (by omega)
  have p1 : 0 < N / Nat.gcd N D := Nat.div_pos ga g0
  have p2 : 0 < D / Nat.gcd N D := Nat.div_pos gb g0
  have q1 := Nat.div_le_self N (Nat.gcd N D)
  have q2 := Nat.div_le_self D (Nat.gcd N D)
  have hg := Nat.gcd_div_gcd_div_gcd_of_pos_left (m := D) (show 0 < N by omega)
  have e1 : (N : Int) / ((Nat.gcd N D : Nat) : Int) = ((N / Nat.gcd N D : Nat) : Int) := (Int.natCast_ediv _ _).symm
  have e2 : (d * m) / ((Nat.gcd N D : Nat) : Int) = ((D / Nat.gcd N D : Nat) : Int) := by rw [hD]; exact (Int.natCast_ediv _ _).symm
  have G : ∀ w, Calls Try.prog 31 #[.int .i64 N, .int .i64 (d * m)] w fun e w' => e = .returned (.int .i64 (Nat.gcd N D : Nat)) ∧ ∃ m, w' = w.drewN m := fun w => by
    rw [hD]; exact divisor_any N D w (by omega) (by omega)
  have G2 : ∀ w, Calls Try.prog 33 #[.int .i64 N, .int .i64 (d * m)] w fun e w' => e = .returned (.int .i64 (Nat.gcd N D : Nat)) ∧ ∃ m, w' = w.drewN m := fun w => by
    rw [hD]; exact gcd_any N D w (by omega) (by omega)
  by_cases hb : D / Nat.gcd N D ≤ 4096
  · exact ⟨_, _, 0, fun w => slower_yes N d m (Nat.gcd N D : Nat) _ _ h w m1 m2 (by omega) (by rw [e1]; omega) (by rw [e1]; omega) (by rw [e2]; omega) (by rw [e2]; omega) (Lib.hid e1) (Lib.hid e2) ⟨by omega, by omega, by omega, by omega, hg⟩ G,
      fun w => refslower_yes N d m (Nat.gcd N D : Nat) _ _ h w m1 m2 (by omega) (by rw [e1]; omega) (by rw [e1]; omega) (by rw [e2]; omega) (by rw [e2]; omega) (Lib.hid e1) (Lib.hid e2) ⟨by omega, by omega, by omega, by omega, hg⟩ G2⟩
  · exact ⟨0, 0, 8, fun w => slower_no N d m (Nat.gcd N D : Nat) _ _ h w m1 m2 (by omega) (by rw [e1]; omega) (by rw [e1]; omega) (by rw [e2]; omega) (by rw [e2]; omega) (Lib.hid e1) (Lib.hid e2) (by omega) G,
      fun w => refslower_no N d m (Nat.gcd N D : Nat) _ _ h w m1 m2 (by omega) (by rw [e1]; omega) (by rw [e1]; omega) (by rw [e2]; omega) (by rw [e2]; omega) (Lib.hid e1) (Lib.hid e2) (by omega) G2⟩
theorem slower_same (n d m : Int) : ∃ A B e : Int, (∀ w, Calls Try.prog 24 #[.agg #[.int .i64 n, .int .i64 d], .int .i64 m] w fun x w' => x = .returned (.tuple #[.agg #[.int .i64 A, .int .i64 B], .int .i64 e]) ∧ Below w.heap.size w w') ∧ (∀ w, Calls Try.prog 25 #[.agg #[.int .i64 n, .int .i64 d], .int .i64 m] w fun x w' => x = .returned (.tuple #[.agg #[.int .i64 A, .int .i64 B], .int .i64 e]) ∧ Below w.heap.size w w') := by
  by_cases h : RV n d
  · by_cases hs : 1 ≤ m ∧ m ≤ 64
    · exact slow_both n d m h hs.1 hs.2
    · exact ⟨0, 0, 2, fun w => slower_out n d m h (by omega) w, fun w => refslower_out n d m h (by omega) w⟩
  · exact ⟨0, 0, 1, fun w => slower_inv n d m h w, fun w => refslower_inv n d m h w⟩
theorem new_no (n d : Int) (s : (n < 1 ∨ 4096 < n) ∨ (d < 1 ∨ 4096 < d)) (w : World) :
    Calls Try.prog 28 #[.int .i64 n, .int .i64 d] w fun e w' => e = .returned (.tuple #[.agg #[.int .i64 0, .int .i64 0], .int .i64 2]) ∧ Below w.heap.size w w' := by
  have c0 : ∀ k, ((w.alloc (.cells #[.int .i64 0, .int .i64 0] 24)).drewN k).heap[w.heap.size]? = some (.cells #[.int .i64 0, .int .i64 0] 24 (0, 0)) := fun k => heap_alloc_new w _
  have c1 : ∀ k, (((w.alloc (.cells #[.int .i64 0, .int .i64 0] 24)).drewN k).setCell ⟨w.heap.size, 0, none⟩ (.int .i64 0)).heap[w.heap.size]? = some (.cells #[.int .i64 0, .int .i64 0] 24 (0, 0)) := fun k => (heap_setCell_same _ w.heap.size 0 _ _ (.int .i64 0) (c0 k)).trans rfl
  have c2 : ∀ k, ((((w.alloc (.cells #[.int .i64 0, .int .i64 0] 24)).drewN k).setCell ⟨w.heap.size, 0, none⟩ (.int .i64 0)).setCell ⟨w.heap.size, 1, none⟩ (.int .i64 0)).heap[w.heap.size]? = some (.cells #[.int .i64 0, .int .i64 0] 24 (0, 0)) := fun k => (heap_setCell_same _ w.heap.size 1 _ _ (.int .i64 0) (c1 k)).trans rfl
  have x0 : ∀ k, ((w.alloc (.cells #[.int .i64 0, .int .i64 0] 24)).drewN k).cell? ⟨w.heap.size, 0, none⟩ = some (.int .i64 0) := fun k => cell_of_row _ _ 0 _ _ _ (c0 k)
  have y0 : ∀ k, ((w.alloc (.cells #[.int .i64 0, .int .i64 0] 24)).drewN k).frozen? ⟨w.heap.size, 0, none⟩ = false := fun k => frozen_of_row _ _ 0 _ _ (c0 k)
  have x1 : ∀ k, (((w.alloc (.cells #[.int .i64 0, .int .i64 0] 24)).drewN k).setCell ⟨w.heap.size, 0, none⟩ (.int .i64 0)).cell? ⟨w.heap.size, 1, none⟩ = some (.int .i64 0) := fun k => cell_of_row _ _ 1 _ _ _ (c1 k)
  have y1 : ∀ k, (((w.alloc (.cells #[.int .i64 0, .int .i64 0] 24)).drewN k).setCell ⟨w.heap.size, 0, none⟩ (.int .i64 0)).frozen? ⟨w.heap.size, 1, none⟩ = false := fun k => frozen_of_row _ _ 1 _ _ (c1 k)
  replace c0 := Lib.hid c0
  replace c1 := Lib.hid c1
  replace c2 := Lib.hid c2
  by_cases s1 : n < 1 ∨ 4096 < n
  · clear s
    go_enter Try.func28, Try.ntmps28
    go_wp2_with (first | (go_at_call 30; refine (within_yes _ _ _ _ (by omega) (by omega)).mono ?_; rintro e w' ⟨rfl, m, rfl⟩) | (go_at_call 30; refine (within_no _ _ _ _ (by omega)).mono ?_; rintro e w' ⟨rfl, m, rfl⟩))
    refine bodyPost_ret (results_row_tmp rfl _ _ w.heap.size _ _ _ _ rfl (c2.out _) rfl (by rfl) rfl) rfl ⟨rfl, ?_⟩
    exact Below.setCell (Below.setCell (Buf.below_drewN ((Below.refl _ _).alloc (Nat.le_refl _) _) _) (Nat.le_refl _) _) (Nat.le_refl _) _
  · replace s : d < 1 ∨ 4096 < d := by omega
    go_enter Try.func28, Try.ntmps28
    go_wp2_with (first | (go_at_call 30; refine (within_yes _ _ _ _ (by omega) (by omega)).mono ?_; rintro e w' ⟨rfl, m, rfl⟩) | (go_at_call 30; refine (within_no _ _ _ _ (by omega)).mono ?_; rintro e w' ⟨rfl, m, rfl⟩))
    refine bodyPost_ret (results_row_tmp rfl _ _ w.heap.size _ _ _ _ rfl (c2.out _) rfl (by rfl) rfl) rfl ⟨rfl, ?_⟩
    exact Below.setCell (Below.setCell (Buf.below_drewN ((Below.refl _ _).alloc (Nat.le_refl _) _) _) (Nat.le_refl _) _) (Nat.le_refl _) _
theorem refnew_no (n d : Int) (s : (n < 1 ∨ 4096 < n) ∨ (d < 1 ∨ 4096 < d)) (w : World) :
    Calls Try.prog 29 #[.int .i64 n, .int .i64 d] w fun e w' => e = .returned (.tuple #[.agg #[.int .i64 0, .int .i64 0], .int .i64 2]) ∧ Below w.heap.size w w' := by
  have c0 : ∀ k, ((w.alloc (.cells #[.int .i64 0, .int .i64 0] 24)).drewN k).heap[w.heap.size]? = some (.cells #[.int .i64 0, .int .i64 0] 24 (0, 0)) := fun k => heap_alloc_new w _
  have c1 : ∀ k, (((w.alloc (.cells #[.int .i64 0, .int .i64 0] 24)).drewN k).setCell ⟨w.heap.size, 0, none⟩ (.int .i64 0)).heap[w.heap.size]? = some (.cells #[.int .i64 0, .int .i64 0] 24 (0, 0)) := fun k => (heap_setCell_same _ w.heap.size 0 _ _ (.int .i64 0) (c0 k)).trans rfl
  have c2 : ∀ k, ((((w.alloc (.cells #[.int .i64 0, .int .i64 0] 24)).drewN k).setCell ⟨w.heap.size, 0, none⟩ (.int .i64 0)).setCell ⟨w.heap.size, 1, none⟩ (.int .i64 0)).heap[w.heap.size]? = some (.cells #[.int .i64 0, .int .i64 0] 24 (0, 0)) := fun k => (heap_setCell_same _ w.heap.size 1 _ _ (.int .i64 0) (c1 k)).trans rfl
  have x0 : ∀ k, ((w.alloc (.cells #[.int .i64 0, .int .i64 0] 24)).drewN k).cell? ⟨w.heap.size, 0, none⟩ = some (.int .i64 0) := fun k => cell_of_row _ _ 0 _ _ _ (c0 k)
  have y0 : ∀ k, ((w.alloc (.cells #[.int .i64 0, .int .i64 0] 24)).drewN k).frozen? ⟨w.heap.size, 0, none⟩ = false := fun k => frozen_of_row _ _ 0 _ _ (c0 k)
  have x1 : ∀ k, (((w.alloc (.cells #[.int .i64 0, .int .i64 0] 24)).drewN k).setCell ⟨w.heap.size, 0, none⟩ (.int .i64 0)).cell? ⟨w.heap.size, 1, none⟩ = some (.int .i64 0) := fun k => cell_of_row _ _ 1 _ _ _ (c1 k)
  have y1 : ∀ k, (((w.alloc (.cells #[.int .i64 0, .int .i64 0] 24)).drewN k).setCell ⟨w.heap.size, 0, none⟩ (.int .i64 0)).frozen? ⟨w.heap.size, 1, none⟩ = false := fun k => frozen_of_row _ _ 1 _ _ (c1 k)
  replace c0 := Lib.hid c0
  replace c1 := Lib.hid c1
  replace c2 := Lib.hid c2
  by_cases s1 : n < 1 ∨ 4096 < n
  · clear s
    go_enter Try.func29, Try.ntmps29
    go_wp2_with (first | (go_at_call 32; refine (in_yes _ _ _ _ (by omega) (by omega)).mono ?_; rintro e w' ⟨rfl, m, rfl⟩) | (go_at_call 32; refine (in_no _ _ _ _ (by omega)).mono ?_; rintro e w' ⟨rfl, m, rfl⟩))
    refine bodyPost_ret (results_row_tmp rfl _ _ w.heap.size _ _ _ _ rfl (c2.out _) rfl (by rfl) rfl) rfl ⟨rfl, ?_⟩
    exact Below.setCell (Below.setCell (Buf.below_drewN ((Below.refl _ _).alloc (Nat.le_refl _) _) _) (Nat.le_refl _) _) (Nat.le_refl _) _
  · replace s : d < 1 ∨ 4096 < d := by omega
    go_enter Try.func29, Try.ntmps29
    go_wp2_with (first | (go_at_call 32; refine (in_yes _ _ _ _ (by omega) (by omega)).mono ?_; rintro e w' ⟨rfl, m, rfl⟩) | (go_at_call 32; refine (in_no _ _ _ _ (by omega)).mono ?_; rintro e w' ⟨rfl, m, rfl⟩))
    refine bodyPost_ret (results_row_tmp rfl _ _ w.heap.size _ _ _ _ rfl (c2.out _) rfl (by rfl) rfl) rfl ⟨rfl, ?_⟩
    exact Below.setCell (Below.setCell (Buf.below_drewN ((Below.refl _ _).alloc (Nat.le_refl _) _) _) (Nat.le_refl _) _) (Nat.le_refl _) _
theorem new_same (n d : Int) : ∃ A B e : Int, (∀ w, Calls Try.prog 28 #[.int .i64 n, .int .i64 d] w fun x w' => x = .returned (.tuple #[.agg #[.int .i64 A, .int .i64 B], .int .i64 e]) ∧ Below w.heap.size w w') ∧ (∀ w, Calls Try.prog 29 #[.int .i64 n, .int .i64 d] w fun x w' => x = .returned (.tuple #[.agg #[.int .i64 A, .int .i64 B], .int .i64 e]) ∧ Below w.heap.size w w') := by
  by_cases hs : (1 ≤ n ∧ n ≤ 4096) ∧ (1 ≤ d ∧ d ≤ 4096)
  · obtain ⟨⟨n1, n2⟩, d1, d2⟩ := hs
    obtain ⟨g, hd, _⟩ := dv_of n d n1 n2 d1 d2
    exact ⟨_, _, 0, fun w => new_ok n d g w n1 n2 d1 d2 hd, fun w => ref_new_ok n d g w n1 n2 d1 d2 hd⟩
  · exact ⟨0, 0, 2, fun w => new_no n d (by omega) w, fun w => refnew_no n d (by omega) w⟩
theorem valid_same (n d : Int) : ∃ b : Bool, (∀ w, Calls Try.prog 11 #[.agg #[.int .i64 n, .int .i64 d]] w fun x w' => x = .returned (.bool b) ∧ Below w.heap.size w w') ∧ (∀ w, Calls Try.prog 12 #[.agg #[.int .i64 n, .int .i64 d]] w fun x w' => x = .returned (.bool b) ∧ Below w.heap.size w w') := by
  by_cases h : RV n d
  · exact ⟨true, fun w => valid_yes n d h w, fun w => refvalid_yes n d h w⟩
  · exact ⟨false, fun w => valid_no n d h w, fun w => refvalid_no n d h w⟩
end Rate
end Go.Proofs.Ytgckppkfpccanaa
