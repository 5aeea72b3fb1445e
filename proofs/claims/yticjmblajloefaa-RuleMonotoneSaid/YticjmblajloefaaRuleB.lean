/- Rules in memory; rule.Validate. -/
import Derived.Test.YticjmblajloefaaRuleA
set_option linter.unusedVariables false
namespace Go.Proofs.Yticjmblajloefaa
open Go.RowKit
namespace Ru
/-- A slice of rules in memory. -/
structure RW (w : World) (g n c : Nat) (M P F D : Nat → Int) : Prop where
  n1 : 1 ≤ n
  n8 : n ≤ 8
  le : n ≤ c
  cm : c ≤ maxLen
  lt : g < w.heap.size
  at0 : ∀ j, j < n → w.cell? ⟨g, j * 4, none⟩ = some (.int .i64 (M j))
  at1 : ∀ j, j < n → w.cell? ⟨g, j * 4 + 1, none⟩ = some (.int .i64 (P j))
  at2 : ∀ j, j < n → w.cell? ⟨g, j * 4 + 2, none⟩ = some (.int .i64 (F j))
  at3 : ∀ j, j < n → w.cell? ⟨g, j * 4 + 3, none⟩ = some (.int .i64 (D j))
  val : ∀ j, j < n → -1000 ≤ M j ∧ M j ≤ 2000 ∧ 1 ≤ P j ∧ P j ≤ 64 ∧ 0 ≤ F j ∧ F j ≤ 9007199254740992 ∧ 0 ≤ D j ∧ D j ≤ 9007199254740992
theorem RW.of_block {w w' : World} {g n c : Nat} {M P F D : Nat → Int} (h : RW w g n c M P F D) (hs : w.heap.size ≤ w'.heap.size) (hb : w'.heap[g]? = w.heap[g]?) : RW w' g n c M P F D :=
  ⟨h.n1, h.n8, h.le, h.cm, Nat.lt_of_lt_of_le h.lt hs, fun j hj => (World.cell?_of_block (a := ⟨g, j * 4, none⟩) hb).trans (h.at0 j hj), fun j hj => (World.cell?_of_block (a := ⟨g, j * 4 + 1, none⟩) hb).trans (h.at1 j hj), fun j hj => (World.cell?_of_block (a := ⟨g, j * 4 + 2, none⟩) hb).trans (h.at2 j hj), fun j hj => (World.cell?_of_block (a := ⟨g, j * 4 + 3, none⟩) hb).trans (h.at3 j hj), h.val⟩
theorem RW.below {w w' : World} {g n c : Nat} {M P F D : Nat → Int} (h : RW w g n c M P F D) (hb : Below w.heap.size w w') : RW w' g n c M P F D := h.of_block hb.size (hb.block g h.lt)
set_option maxHeartbeats 4000000 in
theorem validate_yes (g n c : Nat) (M P F D : Nat → Int) (Ds Ev : Int) (w : World) (h : RW w g n c M P F D) (d0 : 0 ≤ Ds) (d9 : Ds ≤ 9007199254740992) (e0 : 0 ≤ Ev) (e9 : Ev ≤ 9007199254740992) :
    Calls Try.prog 20 #[.agg #[.slice (some ⟨g, 0, none⟩) n c, .int .i64 Ds, .int .i64 Ev]] w fun e w' => e = .returned (.int .i64 0) ∧ Below w.heap.size w w' := by
  have n1 : (1 : Int) ≤ n := by have := h.n1; omega
  have n8 : (n : Int) ≤ 8 := by have := h.n8; omega
  have nc : n ≤ c := h.le
  have p1 := Lib.hid (show (w.alloc (.cells #[.slice (some ⟨g, 0, none⟩) n c, .int .i64 Ds, .int .i64 Ev] 27)).heap[w.heap.size]? = some (.cells #[.slice (some ⟨g, 0, none⟩) n c, .int .i64 Ds, .int .i64 Ev] 27 (0, 0)) from heap_alloc_new _ _)
  have hT := Lib.hid (h.below (Geo.new_block (.cells #[.slice (some ⟨g, 0, none⟩) n c, .int .i64 Ds, .int .i64 Ev] 27)))
  have hW := Lib.hid (Geo.new_block (w := w) (.cells #[.slice (some ⟨g, 0, none⟩) n c, .int .i64 Ds, .int .i64 Ev] 27))
  clear h
  go_enter Try.func20, Try.ntmps20
  go_wp2_with (go_at_call 26; refine (within_yes _ _ _ _ (by omega) (by omega)).mono ?_; rintro e w1 ⟨rfl, rfl⟩)
  go_loopw [25] (fun i wr => ∃ k : Nat, k ≤ n ∧ i = .int .i64 k ∧ Hid (RW wr g n c M P F D) ∧ Hid (Below w.heap.size w wr)) (fun i _ => (n - intOf i).toNat)
  case atStart => exact ⟨0, by omega, rfl, hT, hW⟩
  case round =>
    clear p1 hT hW
    obtain ⟨k, hk, rfl, hT, hW⟩ := hrel
    by_cases hlt : k < n
    · have hlt' : (k : Int) < n := by omega
      have y0 := hT.out.at0 k hlt
      have y1 := hT.out.at1 k hlt
      have y2 := hT.out.at2 k hlt
      have y3 := hT.out.at3 k hlt
      obtain ⟨v0, v1, v2, v3, v4, v5, v6, v7⟩ := hT.out.val k hlt
      have hT' := fun o => Lib.hid (hT.out.below (Geo.new_block (w := wr) o))
      have hW' := fun o => Lib.hid (hW.out.alloc hW.out.size o)
      generalize M k = mk at *
      generalize P k = pk at *
      generalize F k = fk at *
      generalize D k = dk at *
      go_wp2_with (go_at_call 26; refine (within_yes _ _ _ _ (by omega) (by omega)).mono ?_; rintro e w1 ⟨rfl, rfl⟩)
      go_roundw
      case rel => exact ⟨k + 1, by omega, by go_num, hT' _, hW' _⟩
      case measure => simp [intOf]; omega
    · obtain rfl : k = n := by omega
      go_wp2
      go_ret
      exact ⟨rfl, hW.out⟩
end Ru
end Go.Proofs.Yticjmblajloefaa
