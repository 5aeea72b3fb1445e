/- Sources. -/
import Derived.Test.YticjmblajloefaaPlace
import Derived.Test.YticjmblajloefaaKeep
set_option linter.unusedVariables false
namespace Go.Proofs.Yticjmblajloefaa
open Go.RowKit
namespace Ru
/-- Four strings. -/
def Sourced (e : Ending) : Prop := ∃ s0 s1 s2 s3 : ByteArray, e = .returned (.agg #[.string s0, .string s1, .string s2, .string s3])
theorem cells4s {w : World} {g : Nat} {x y z u : Value} {t : TypeId} (h : w.heap[g]? = some (.cells #[x, y, z, u] t (0, 0))) : w.cell? ⟨g, 0, none⟩ = some x ∧ w.cell? ⟨g, 1, none⟩ = some y ∧ w.cell? ⟨g, 2, none⟩ = some z ∧ w.cell? ⟨g, 3, none⟩ = some u ∧ w.frozen? ⟨g, 0, none⟩ = false ∧ w.frozen? ⟨g, 1, none⟩ = false ∧ w.frozen? ⟨g, 2, none⟩ = false ∧ w.frozen? ⟨g, 3, none⟩ = false :=
  ⟨cell_of_row w g 0 _ _ _ h, cell_of_row w g 1 _ _ _ h, cell_of_row w g 2 _ _ _ h, cell_of_row w g 3 _ _ _ h, frozen_of_row w g 0 _ _ h, frozen_of_row w g 1 _ _ h, frozen_of_row w g 2 _ _ h, frozen_of_row w g 3 _ _ h⟩
theorem st4 {w : World} {g : Nat} {a b c d : Value} {t : TypeId} (h : w.heap[g]? = some (.cells #[a, b, c, d] t (0, 0))) (x y z u : Value) :
    ((((w.setCell ⟨g, 0, none⟩ x).setCell ⟨g, 1, none⟩ y).setCell ⟨g, 2, none⟩ z).setCell ⟨g, 3, none⟩ u).heap[g]? = some (.cells #[x, y, z, u] t (0, 0)) := by
  have h1 : (w.setCell ⟨g, 0, none⟩ x).heap[g]? = some (.cells #[x, b, c, d] t (0, 0)) := (heap_setCell_same w g 0 _ _ x h).trans rfl
  have h2 : ((w.setCell ⟨g, 0, none⟩ x).setCell ⟨g, 1, none⟩ y).heap[g]? = some (.cells #[x, y, c, d] t (0, 0)) := (heap_setCell_same _ g 1 _ _ y h1).trans rfl
  have h3 : (((w.setCell ⟨g, 0, none⟩ x).setCell ⟨g, 1, none⟩ y).setCell ⟨g, 2, none⟩ z).heap[g]? = some (.cells #[x, y, z, d] t (0, 0)) := (heap_setCell_same _ g 2 _ _ z h2).trans rfl
  exact (heap_setCell_same _ g 3 _ _ u h3).trans rfl
/-- Strings in memory. -/
def Strs (w : World) (b : Nat) (ss : List ByteArray) : Prop := ∀ j, j < ss.length → w.cell? ⟨b, j, none⟩ = some (.string (ss.getD j ⟨#[]⟩))
theorem strs_alloc (w : World) (ss : List ByteArray) (t : TypeId) : Strs (w.alloc (.cells (ss.map Value.string).toArray t)) w.heap.size ss := by
  intro j hj
  refine (World.cell?_alloc_mark w _ t (0, 0) j).trans ?_
  simp [List.getD, hj]
set_option maxHeartbeats 2000000 in
theorem source_any (n : Int) (w : World) :
    Calls Try.prog 17 #[.int .i64 n] w fun e w' => Sourced e ∧ Below w.heap.size w w' := by
  have M := Lib.hid fun w' => Keep.mod_any n 6 w' (by omega) (by omega)
  obtain ⟨k, hk, k0, k5⟩ : ∃ k : Int, n % 6 = k ∧ 0 ≤ k ∧ k < 6 := ⟨_, rfl, by omega, by omega⟩
  rw [hk] at M
  clear hk
  obtain ⟨q, rfl⟩ := Int.eq_ofNat_of_zero_le k0
  obtain ⟨W2, hW2⟩ : ∃ W2, W2 = (w.alloc (.cells #[.string ⟨#[]⟩, .string ⟨#[]⟩, .string ⟨#[]⟩, .string ⟨#[]⟩] 30)).alloc (.cells #[.string ⟨#[83, 49]⟩, .string ⟨#[83, 50]⟩, .string ⟨#[83, 51]⟩, .string ⟨#[83, 52]⟩, .string ⟨#[83, 53]⟩, .string ⟨#[83, 54]⟩] 9) := ⟨_, rfl⟩
  have p0 : W2.heap[w.heap.size]? = some (.cells #[.string ⟨#[]⟩, .string ⟨#[]⟩, .string ⟨#[]⟩, .string ⟨#[]⟩] 30 (0, 0)) := by rw [hW2]; exact Geo.blk_alloc (Geo.blk_new _ _) _
  have ST : Strs W2 (w.heap.size + 1) [⟨#[83, 49]⟩, ⟨#[83, 50]⟩, ⟨#[83, 51]⟩, ⟨#[83, 52]⟩, ⟨#[83, 53]⟩, ⟨#[83, 54]⟩] := by
    have h := strs_alloc (w.alloc (.cells #[.string ⟨#[]⟩, .string ⟨#[]⟩, .string ⟨#[]⟩, .string ⟨#[]⟩] 30)) [⟨#[83, 49]⟩, ⟨#[83, 50]⟩, ⟨#[83, 51]⟩, ⟨#[83, 52]⟩, ⟨#[83, 53]⟩, ⟨#[83, 54]⟩] 9
    rw [hW2]
    simpa using h
  have B : Below w.heap.size w W2 := by rw [hW2]; exact ((Below.refl w.heap.size w).alloc (Nat.le_refl _) _).alloc (by simp) _
  have cq := ST q (by simp; omega)
  generalize ([⟨#[83, 49]⟩, ⟨#[83, 50]⟩, ⟨#[83, 51]⟩, ⟨#[83, 52]⟩, ⟨#[83, 53]⟩, ⟨#[83, 54]⟩] : List ByteArray).getD q ⟨#[]⟩ = sq at cq
  obtain ⟨c0, c1, c2, c3, f0, f1, f2, f3⟩ := cells4s p0
  have hk6 : (q : Int) < 6 := k5
  replace hW2 := Lib.hid hW2
  replace p0 := Lib.hid p0
  replace B := Lib.hid B
  clear ST
  go_enter Try.func17, Try.ntmps17
  go_wp2_with (go_at_call 14; rw [← hW2.out]; refine (M.out _).mono ?_; rintro e w1 ⟨rfl, rfl⟩)
  exact bodyPost_ret (results_cell_row rfl _ _ w.heap.size _ _ _ _ rfl (st4 p0.out _ _ _ _) rfl (by rfl) rfl) rfl ⟨⟨_, _, _, _, rfl⟩, (((B.out.setCell (p := ⟨w.heap.size, 0, none⟩) (Nat.le_refl _) _).setCell (p := ⟨w.heap.size, 1, none⟩) (Nat.le_refl _) _).setCell (p := ⟨w.heap.size, 2, none⟩) (Nat.le_refl _) _).setCell (p := ⟨w.heap.size, 3, none⟩) (Nat.le_refl _) _⟩
end Ru
end Go.Proofs.Yticjmblajloefaa
