/- Contracts of package geometry at the example of the chapter: position, Center. -/
import Derived.Test.YtldgihlhioeipaaGreatGeoD
namespace Go.Proofs.YtldgihlhioeipaaGreat
open Go.RowKit
namespace Geo
set_option maxRecDepth 100000 in
theorem position_any (x y z : Int) (w : World) :
    Calls Tryz.prog 41 #[.agg #[.int .i64 x, .int .i64 y, .int .i64 z]] w fun e w' => e = .returned (.agg #[.int .i64 x, .int .i64 y, .int .i64 z]) ∧ Below w.heap.size w w' := by
  go_enter Tryz.func41, Tryz.ntmps41
  go_wp2
  exact bodyPost_ret (results_cell_row rfl _ _ (w.heap.size + 1) _ _ _ _ rfl (blk_new1 _ _ _) rfl (by rfl) rfl) rfl ⟨rfl, ((Below.refl _ _).alloc (Nat.le_refl _) _).alloc (by simp) _⟩
theorem middle_any (x y : Int) (w : World) (x0 : 0 ≤ x) (x1 : x ≤ y) (y1 : y ≤ 1048576) :
    Calls Tryz.prog 84 #[.int .i64 x, .int .i64 y] w fun e w' => e = .returned (.int .i64 (x + (y - x) / 2)) ∧ w' = w := by
  go_enter Tryz.func84, Tryz.ntmps84
  go_wp2
  go_ret
  exact ⟨rfl, rfl⟩
def cAt (k : Nat) : Array Value := match k with | 0 => #[.int .i64 0, .int .i64 0, .int .i64 0] | 1 => #[.int .i64 4, .int .i64 0, .int .i64 0] | 2 => #[.int .i64 4, .int .i64 2, .int .i64 0] | _ => #[.int .i64 4, .int .i64 2, .int .i64 2]
set_option maxHeartbeats 2000000 in
set_option maxRecDepth 100000 in
theorem center_ex (w : World) :
    Calls Tryz.prog 61 #[.agg #[.int .i64 0, .int .i64 0, .int .i64 0, .int .i64 9, .int .i64 4, .int .i64 4]] w fun r w' => r = .returned (.agg #[.int .i64 4, .int .i64 2, .int .i64 2]) ∧ Below w.heap.size w w' := by
  have V1 := Lib.hid (validBox_yes 0 0 0 9 4 4 bv)
  have p1 := Lib.hid (blk_alloc (blk_new w (.cells #[.int .i64 0, .int .i64 0, .int .i64 0, .int .i64 9, .int .i64 4, .int .i64 4] 28)) (.cells #[.int .i64 0, .int .i64 0, .int .i64 0] 26))
  have p2 := Lib.hid (blk_new1 w (.cells #[.int .i64 0, .int .i64 0, .int .i64 0, .int .i64 9, .int .i64 4, .int .i64 4] 28) (.cells #[.int .i64 0, .int .i64 0, .int .i64 0] 26))
  have hA : Hid (Below w.heap.size w ((w.alloc (.cells #[.int .i64 0, .int .i64 0, .int .i64 0, .int .i64 9, .int .i64 4, .int .i64 4] 28)).alloc (.cells #[.int .i64 0, .int .i64 0, .int .i64 0] 26))) := Lib.hid (Buf.then_ (new_block _) (new_block _))
  go_enter Tryz.func61, Tryz.ntmps61
  go_wp2_with fail
  with_reducible refine (V1.out _).mono ?_
  rintro r w1 ⟨rfl, hb⟩
  replace p1 := Lib.hid (blk_b hb p1.out)
  replace p2 := Lib.hid (blk_b hb p2.out)
  replace hA := Lib.hid (Buf.then_ hA.out hb)
  clear hb
  obtain ⟨a1, a2, a3, a4, a5, a6⟩ := cells6 p1.out
  go_wp2_with fail
  refine (ends_any 0 0 0 9 4 4 _).mono ?_
  rintro r w3 ⟨rfl, hb⟩
  have hlt : Hid (w.heap.size + 1 < w3.heap.size) := Lib.hid (Array.getElem?_eq_some_iff.1 (blk_b hb p2.out)).1
  replace p2 := Lib.hid (blk_alloc (blk_alloc (blk_b hb p2.out) (.cells #[.int .i64 0, .int .i64 0, .int .i64 0] 89)) (.cells #[.int .i64 9, .int .i64 4, .int .i64 4] 89))
  have g2 := Lib.hid (blk_alloc (blk_new w3 (.cells #[.int .i64 0, .int .i64 0, .int .i64 0] 89)) (.cells #[.int .i64 9, .int .i64 4, .int .i64 4] 89))
  have g3 := Lib.hid (blk_new1 w3 (.cells #[.int .i64 0, .int .i64 0, .int .i64 0] 89) (.cells #[.int .i64 9, .int .i64 4, .int .i64 4] 89))
  have hW : Hid (Below w.heap.size w ((w3.alloc (.cells #[.int .i64 0, .int .i64 0, .int .i64 0] 89)).alloc (.cells #[.int .i64 9, .int .i64 4, .int .i64 4] 89))) := Lib.hid (Buf.then_ (Buf.then_ (Buf.then_ hA.out hb) (new_block _)) (new_block _))
  clear hb hA a1 a2 a3 a4 a5 a6
  go_wp2_with fail
  go_loopw [15] (fun i wr => ∃ k : Nat, k ≤ 3 ∧ i = .int .i64 k ∧ Hid (wr.heap[w.heap.size + 1]? = some (.cells #[.int .i64 0, .int .i64 0, .int .i64 0] 26 (0, 0))) ∧ Hid (wr.heap[w3.heap.size]? = some (.cells (cAt k) 89 (0, 0))) ∧ Hid (wr.heap[w3.heap.size + 1]? = some (.cells #[.int .i64 9, .int .i64 4, .int .i64 4] 89 (0, 0))) ∧ Hid (Below w.heap.size w wr)) (fun i _ => (3 - intOf i).toNat)
  case atStart => exact ⟨0, by omega, rfl, p2, g2, g3, hW⟩
  case round =>
    clear p1 p2 g2 g3 hW
    obtain ⟨k, hk, rfl, p2, g2, g3, hW⟩ := hrel
    obtain ⟨c1, c2, c3, _, _, _⟩ := cells3 g3.out
    have hlt' := hlt.out
    have hsz : w.heap.size ≤ w3.heap.size := by omega
    by_cases h0 : k = 0
    · subst h0
      replace g2 : Hid (wr.heap[w3.heap.size]? = some (.cells #[.int .i64 0, .int .i64 0, .int .i64 0] 89 (0, 0))) := g2
      obtain ⟨b1, b2, b3, f1, f2, f3⟩ := cells3 g2.out
      go_wp2_with fail
      go_region_with (go_at_call 84; refine (middle_any 0 9 _ (by decide) (by decide) (by decide)).mono ?_; rintro r w5 ⟨rfl, rfl⟩)
      all_goals
        go_wp2
        go_roundw
        case rel => exact ⟨1, by omega, rfl, Lib.hid ((Below.heap_setCell _ _ _ _ (by simp; omega)).trans p2.out), Lib.hid ((heap_setCell_same _ _ 0 _ _ _ g2.out).trans rfl), Lib.hid ((Below.heap_setCell _ _ _ _ (by simp)).trans g3.out), Lib.hid (Below.setCell (Below.drew hW.out) hsz _)⟩
        case measure => simp [intOf]
    by_cases h1 : k = 1
    · subst h1
      replace g2 : Hid (wr.heap[w3.heap.size]? = some (.cells #[.int .i64 4, .int .i64 0, .int .i64 0] 89 (0, 0))) := g2
      obtain ⟨b1, b2, b3, f1, f2, f3⟩ := cells3 g2.out
      go_wp2_with fail
      go_region_with (go_at_call 84; refine (middle_any 0 4 _ (by decide) (by decide) (by decide)).mono ?_; rintro r w5 ⟨rfl, rfl⟩)
      all_goals
        go_wp2
        go_roundw
        case rel => exact ⟨2, by omega, rfl, Lib.hid ((Below.heap_setCell _ _ _ _ (by simp; omega)).trans p2.out), Lib.hid ((heap_setCell_same _ _ 1 _ _ _ g2.out).trans rfl), Lib.hid ((Below.heap_setCell _ _ _ _ (by simp)).trans g3.out), Lib.hid (Below.setCell (Below.drew hW.out) hsz _)⟩
        case measure => simp [intOf]
    by_cases h2 : k = 2
    · subst h2
      replace g2 : Hid (wr.heap[w3.heap.size]? = some (.cells #[.int .i64 4, .int .i64 2, .int .i64 0] 89 (0, 0))) := g2
      obtain ⟨b1, b2, b3, f1, f2, f3⟩ := cells3 g2.out
      go_wp2_with fail
      go_region_with (go_at_call 84; refine (middle_any 0 4 _ (by decide) (by decide) (by decide)).mono ?_; rintro r w5 ⟨rfl, rfl⟩)
      all_goals
        go_wp2
        go_roundw
        case rel => exact ⟨3, by omega, rfl, Lib.hid ((Below.heap_setCell _ _ _ _ (by simp; omega)).trans p2.out), Lib.hid ((heap_setCell_same _ _ 2 _ _ _ g2.out).trans rfl), Lib.hid ((Below.heap_setCell _ _ _ _ (by simp)).trans g3.out), Lib.hid (Below.setCell (Below.drew hW.out) hsz _)⟩
        case measure => simp [intOf]
    obtain rfl : k = 3 := by omega
    replace g2 : Hid (wr.heap[w3.heap.size]? = some (.cells #[.int .i64 4, .int .i64 2, .int .i64 2] 89 (0, 0))) := g2
    obtain ⟨b1, b2, b3, f1, f2, f3⟩ := cells3 g2.out
    go_wp2_with fail
    refine (position_any 4 2 2 _).mono ?_
    rintro r w6 ⟨rfl, hb⟩
    replace p2 := Lib.hid (blk_b hb p2.out)
    replace hW := Lib.hid (Buf.then_ hW.out hb)
    clear hb b1 b2 b3 f1 f2 f3 c1 c2 c3
    obtain ⟨d1, d2, d3, d4, d5, d6⟩ := cells3 p2.out
    go_wp2
    exact bodyPost_ret (results_cell_row rfl _ _ (w.heap.size + 1) _ _ _ _ rfl (st3 p2.out _ _ _) rfl (by rfl) rfl) rfl ⟨rfl, st3_below hW.out (by omega) _ _ _⟩
end Geo
end Go.Proofs.YtldgihlhioeipaaGreat
