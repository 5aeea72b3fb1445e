/- Contracts of package geometry: middle, Points, Center, whatever the valid box. -/
import Derived.Test.YtldgihlhioeipaaGreatGeoM
namespace Go.Proofs.YtldgihlhioeipaaGreat
open Go.RowKit
namespace Geo
set_option maxRecDepth 100000 in
theorem middle_yes (x y : Int) (w : World) (x0 : -1048576 ≤ x) (x1 : x ≤ y) (y1 : y ≤ 1048576) :
    Calls Tryz.prog 84 #[.int .i64 x, .int .i64 y] w fun e w' => e = .returned (.int .i64 (x + (y - x) / 2)) ∧ w' = w := by
  go_enter Tryz.func84, Tryz.ntmps84
  go_wp2
  go_ret
  exact ⟨rfl, rfl⟩
/-- The number of points. -/
def pts (a b c d e f : Int) : Int := (d - a + 1) * (e - b + 1) * (f - c + 1)
def ptsAt (a b c d e f : Int) (k : Nat) : Int := match k with | 0 => 1 | 1 => (d - a + 1) | 2 => (d - a + 1) * (e - b + 1) | _ => (d - a + 1) * (e - b + 1) * (f - c + 1)
theorem pts_bd {a b c d e f : Int} (h : BV a b c d e f) : (1 ≤ (d - a + 1) * (e - b + 1) ∧ (d - a + 1) * (e - b + 1) ≤ 4398050705409) ∧ 1 ≤ (d - a + 1) * (e - b + 1) * (f - c + 1) ∧ (d - a + 1) * (e - b + 1) * (f - c + 1) ≤ 4683752477283074049 := by
  obtain ⟨⟨ax0, ax1, ay0, ay1, az0, az1⟩, ⟨dx0, dx1, dy0, dy1, dz0, dz1⟩, hx, hy, hz⟩ := h
  have k1 : 0 ≤ (d - a) * (e - b) := Int.mul_nonneg (by omega) (by omega)
  have e1 : (d - a + 1) * (e - b + 1) = (d - a) * (e - b) + (d - a) + (e - b) + 1 := by rw [Int.add_mul, Int.mul_add]; omega
  have k2 : (d - a + 1) * (e - b + 1) ≤ 2097153 * 2097153 := Int.mul_le_mul (by omega) (by omega) (by omega) (by omega)
  have k3 : 1 ≤ (d - a + 1) * (e - b + 1) := by omega
  have k4 : (d - a + 1) * (e - b + 1) * (f - c + 1) ≤ 4398050705409 * 1064961 := Int.mul_le_mul (by omega) (by omega) (by omega) (by omega)
  have k5 : 1 * 1 ≤ (d - a + 1) * (e - b + 1) * (f - c + 1) := Int.mul_le_mul (by omega) (by omega) (by omega) (by omega)
  exact ⟨⟨k3, by omega⟩, by omega, by omega⟩
set_option maxHeartbeats 8000000 in
set_option maxRecDepth 100000 in
theorem points_yes (a b c d e f : Int) (h : BV a b c d e f) (w : World) :
    Calls Tryz.prog 85 #[.agg #[.int .i64 a, .int .i64 b, .int .i64 c, .int .i64 d, .int .i64 e, .int .i64 f]] w fun r w' => r = .returned (.int .i64 (pts a b c d e f)) ∧ Below w.heap.size w w' := by
  have V1 := Lib.hid (validBox_yes a b c d e f h)
  obtain ⟨⟨k1, k2⟩, k3, k4⟩ := pts_bd h
  obtain ⟨⟨ax0, ax1, ay0, ay1, az0, az1⟩, ⟨dx0, dx1, dy0, dy1, dz0, dz1⟩, hx, hy, hz⟩ := h
  have p1 := Lib.hid (blk_new w (.cells #[.int .i64 a, .int .i64 b, .int .i64 c, .int .i64 d, .int .i64 e, .int .i64 f] 28))
  have hA : Hid (Below w.heap.size w (w.alloc (.cells #[.int .i64 a, .int .i64 b, .int .i64 c, .int .i64 d, .int .i64 e, .int .i64 f] 28))) := Lib.hid (new_block _)
  go_enter Tryz.func85, Tryz.ntmps85
  go_wp2_with fail
  with_reducible refine (V1.out _).mono ?_
  rintro r w1 ⟨rfl, hb⟩
  replace p1 := Lib.hid (blk_b hb p1.out)
  replace hA := Lib.hid (Buf.then_ hA.out hb)
  clear hb
  obtain ⟨u1, u2, u3, u4, u5, u6⟩ := cells6 p1.out
  go_wp2_with fail
  refine (ends_any a b c d e f _).mono ?_
  rintro r w3 ⟨rfl, hb⟩
  replace p1 := Lib.hid (blk_alloc (blk_alloc (blk_b hb p1.out) (.cells #[.int .i64 a, .int .i64 b, .int .i64 c] 89)) (.cells #[.int .i64 d, .int .i64 e, .int .i64 f] 89))
  have g2 := Lib.hid (blk_alloc (blk_new w3 (.cells #[.int .i64 a, .int .i64 b, .int .i64 c] 89)) (.cells #[.int .i64 d, .int .i64 e, .int .i64 f] 89))
  have g3 := Lib.hid (blk_new1 w3 (.cells #[.int .i64 a, .int .i64 b, .int .i64 c] 89) (.cells #[.int .i64 d, .int .i64 e, .int .i64 f] 89))
  have hW : Hid (Below w.heap.size w ((w3.alloc (.cells #[.int .i64 a, .int .i64 b, .int .i64 c] 89)).alloc (.cells #[.int .i64 d, .int .i64 e, .int .i64 f] 89))) := Lib.hid (Buf.then_ (Buf.then_ (Buf.then_ hA.out hb) (new_block _)) (new_block _))
  clear hb hA u1 u2 u3 u4 u5 u6 V1
  go_wp2_with fail
  go_loopw [5, 15] (fun u i wr => ∃ k : Nat, k ≤ 3 ∧ i = .int .i64 k ∧ u = .int .i64 (ptsAt a b c d e f k) ∧ Hid (wr.heap[w3.heap.size]? = some (.cells #[.int .i64 a, .int .i64 b, .int .i64 c] 89 (0, 0))) ∧ Hid (wr.heap[w3.heap.size + 1]? = some (.cells #[.int .i64 d, .int .i64 e, .int .i64 f] 89 (0, 0))) ∧ Hid (Below w.heap.size w wr)) (fun _ i _ => (3 - intOf i).toNat)
  case atStart => exact ⟨0, by omega, rfl, rfl, g2, g3, hW⟩
  case round =>
    clear g2 g3 hW p1
    obtain ⟨k, hk, rfl, hu, g2, g3, hW⟩ := hrel
    obtain ⟨b1, b2, b3, _, _, _⟩ := cells3 g2.out
    obtain ⟨c1, c2, c3, _, _, _⟩ := cells3 g3.out
    by_cases h0 : k = 0
    · subst h0
      replace hu : _ = Value.int .i64 (1) := hu
      subst hu
      go_wp2
      go_quiet (fail)
      go_wp2
      go_roundw
      case rel => exact ⟨1, by omega, rfl, rfl, g2, g3, Lib.hid (Buf.below_drewN hW.out _)⟩
      case measure => simp [intOf]
    by_cases h1 : k = 1
    · subst h1
      replace hu : _ = Value.int .i64 ((d - a + 1)) := hu
      subst hu
      go_wp2
      go_quiet (fail)
      go_wp2
      go_roundw
      case rel => exact ⟨2, by omega, rfl, rfl, g2, g3, Lib.hid (Buf.below_drewN hW.out _)⟩
      case measure => simp [intOf]
    by_cases h2 : k = 2
    · subst h2
      replace hu : _ = Value.int .i64 ((d - a + 1) * (e - b + 1)) := hu
      subst hu
      go_wp2
      go_quiet (fail)
      go_wp2
      go_roundw
      case rel => exact ⟨3, by omega, rfl, rfl, g2, g3, Lib.hid (Buf.below_drewN hW.out _)⟩
      case measure => simp [intOf]
    obtain rfl : k = 3 := by omega
    replace hu : _ = Value.int .i64 ((d - a + 1) * (e - b + 1) * (f - c + 1)) := hu
    subst hu
    go_wp2
    go_ret
    exact ⟨rfl, hW.out⟩
def cenAt (a b c d e f : Int) (k : Nat) : Array Value := match k with | 0 => #[.int .i64 a, .int .i64 b, .int .i64 c] | 1 => #[.int .i64 (a + (d - a) / 2), .int .i64 b, .int .i64 c] | 2 => #[.int .i64 (a + (d - a) / 2), .int .i64 (b + (e - b) / 2), .int .i64 c] | _ => #[.int .i64 (a + (d - a) / 2), .int .i64 (b + (e - b) / 2), .int .i64 (c + (f - c) / 2)]
set_option maxHeartbeats 8000000 in
set_option maxRecDepth 100000 in
theorem center_yes (a b c d e f : Int) (h : BV a b c d e f) (w : World) :
    Calls Tryz.prog 61 #[.agg #[.int .i64 a, .int .i64 b, .int .i64 c, .int .i64 d, .int .i64 e, .int .i64 f]] w fun r w' => r = .returned (.agg #[.int .i64 (a + (d - a) / 2), .int .i64 (b + (e - b) / 2), .int .i64 (c + (f - c) / 2)]) ∧ Below w.heap.size w w' := by
  have V1 := Lib.hid (validBox_yes a b c d e f h)
  obtain ⟨⟨ax0, ax1, ay0, ay1, az0, az1⟩, ⟨dx0, dx1, dy0, dy1, dz0, dz1⟩, hx, hy, hz⟩ := h
  have p1 := Lib.hid (blk_alloc (blk_new w (.cells #[.int .i64 a, .int .i64 b, .int .i64 c, .int .i64 d, .int .i64 e, .int .i64 f] 28)) (.cells #[.int .i64 0, .int .i64 0, .int .i64 0] 26))
  have p2 := Lib.hid (blk_new1 w (.cells #[.int .i64 a, .int .i64 b, .int .i64 c, .int .i64 d, .int .i64 e, .int .i64 f] 28) (.cells #[.int .i64 0, .int .i64 0, .int .i64 0] 26))
  have hA : Hid (Below w.heap.size w ((w.alloc (.cells #[.int .i64 a, .int .i64 b, .int .i64 c, .int .i64 d, .int .i64 e, .int .i64 f] 28)).alloc (.cells #[.int .i64 0, .int .i64 0, .int .i64 0] 26))) := Lib.hid (Buf.then_ (new_block _) (new_block _))
  go_enter Tryz.func61, Tryz.ntmps61
  go_wp2_with fail
  with_reducible refine (V1.out _).mono ?_
  rintro r w1 ⟨rfl, hb⟩
  replace p1 := Lib.hid (blk_b hb p1.out)
  replace p2 := Lib.hid (blk_b hb p2.out)
  replace hA := Lib.hid (Buf.then_ hA.out hb)
  clear hb
  obtain ⟨u1, u2, u3, u4, u5, u6⟩ := cells6 p1.out
  go_wp2_with fail
  refine (ends_any a b c d e f _).mono ?_
  rintro r w3 ⟨rfl, hb⟩
  have hlt := Lib.hid (Array.getElem?_eq_some_iff.1 (blk_b hb p2.out)).1
  replace p1 := Lib.hid (blk_alloc (blk_alloc (blk_b hb p1.out) (.cells #[.int .i64 a, .int .i64 b, .int .i64 c] 89)) (.cells #[.int .i64 d, .int .i64 e, .int .i64 f] 89))
  replace p2 := Lib.hid (blk_alloc (blk_alloc (blk_b hb p2.out) (.cells #[.int .i64 a, .int .i64 b, .int .i64 c] 89)) (.cells #[.int .i64 d, .int .i64 e, .int .i64 f] 89))
  have g2 := Lib.hid (blk_alloc (blk_new w3 (.cells #[.int .i64 a, .int .i64 b, .int .i64 c] 89)) (.cells #[.int .i64 d, .int .i64 e, .int .i64 f] 89))
  have g3 := Lib.hid (blk_new1 w3 (.cells #[.int .i64 a, .int .i64 b, .int .i64 c] 89) (.cells #[.int .i64 d, .int .i64 e, .int .i64 f] 89))
  have hW : Hid (Below w.heap.size w ((w3.alloc (.cells #[.int .i64 a, .int .i64 b, .int .i64 c] 89)).alloc (.cells #[.int .i64 d, .int .i64 e, .int .i64 f] 89))) := Lib.hid (Buf.then_ (Buf.then_ (Buf.then_ hA.out hb) (new_block _)) (new_block _))
  clear hb hA u1 u2 u3 u4 u5 u6 V1
  go_wp2_with fail
  go_loopw [15] (fun i wr => ∃ k : Nat, k ≤ 3 ∧ i = .int .i64 k ∧ Hid (wr.heap[w.heap.size + 1]? = some (.cells #[.int .i64 0, .int .i64 0, .int .i64 0] 26 (0, 0))) ∧ Hid (wr.heap[w3.heap.size]? = some (.cells (cenAt a b c d e f k) 89 (0, 0))) ∧ Hid (wr.heap[w3.heap.size + 1]? = some (.cells #[.int .i64 d, .int .i64 e, .int .i64 f] 89 (0, 0))) ∧ Hid (Below w.heap.size w wr)) (fun i _ => (3 - intOf i).toNat)
  case atStart => exact ⟨0, by omega, rfl, p2, g2, g3, hW⟩
  case round =>
    clear p1 p2 g2 g3 hW
    obtain ⟨k, hk, rfl, p2, g2, g3, hW⟩ := hrel
    obtain ⟨c1, c2, c3, _, _, _⟩ := cells3 g3.out
    have hlt' := hlt.out
    have hsz : w.heap.size ≤ w3.heap.size := by omega
    by_cases h0 : k = 0
    · subst h0
      replace g2 : Hid (wr.heap[w3.heap.size]? = some (.cells #[.int .i64 a, .int .i64 b, .int .i64 c] 89 (0, 0))) := g2
      obtain ⟨b1, b2, b3, f1, f2, f3⟩ := cells3 g2.out
      go_wp2_with fail
      go_region_with (go_at_call 84; refine (middle_yes a d _ (by omega) (by omega) (by omega)).mono ?_; rintro r w5 ⟨rfl, rfl⟩)
      all_goals
        go_wp2
        go_roundw
        case rel => exact ⟨1, by omega, rfl, Lib.hid ((Below.heap_setCell _ _ _ _ (by simp; omega)).trans p2.out), Lib.hid ((heap_setCell_same _ _ 0 _ _ _ g2.out).trans rfl), Lib.hid ((Below.heap_setCell _ _ _ _ (by simp)).trans g3.out), Lib.hid (Below.setCell (Below.drew hW.out) hsz _)⟩
        case measure => simp [intOf]
    by_cases h1 : k = 1
    · subst h1
      replace g2 : Hid (wr.heap[w3.heap.size]? = some (.cells #[.int .i64 (a + (d - a) / 2), .int .i64 b, .int .i64 c] 89 (0, 0))) := g2
      obtain ⟨b1, b2, b3, f1, f2, f3⟩ := cells3 g2.out
      go_wp2_with fail
      go_region_with (go_at_call 84; refine (middle_yes b e _ (by omega) (by omega) (by omega)).mono ?_; rintro r w5 ⟨rfl, rfl⟩)
      all_goals
        go_wp2
        go_roundw
        case rel => exact ⟨2, by omega, rfl, Lib.hid ((Below.heap_setCell _ _ _ _ (by simp; omega)).trans p2.out), Lib.hid ((heap_setCell_same _ _ 1 _ _ _ g2.out).trans rfl), Lib.hid ((Below.heap_setCell _ _ _ _ (by simp)).trans g3.out), Lib.hid (Below.setCell (Below.drew hW.out) hsz _)⟩
        case measure => simp [intOf]
    by_cases h2 : k = 2
    · subst h2
      replace g2 : Hid (wr.heap[w3.heap.size]? = some (.cells #[.int .i64 (a + (d - a) / 2), .int .i64 (b + (e - b) / 2), .int .i64 c] 89 (0, 0))) := g2
      obtain ⟨b1, b2, b3, f1, f2, f3⟩ := cells3 g2.out
      go_wp2_with fail
      go_region_with (go_at_call 84; refine (middle_yes c f _ (by omega) (by omega) (by omega)).mono ?_; rintro r w5 ⟨rfl, rfl⟩)
      all_goals
        go_wp2
        go_roundw
        case rel => exact ⟨3, by omega, rfl, Lib.hid ((Below.heap_setCell _ _ _ _ (by simp; omega)).trans p2.out), Lib.hid ((heap_setCell_same _ _ 2 _ _ _ g2.out).trans rfl), Lib.hid ((Below.heap_setCell _ _ _ _ (by simp)).trans g3.out), Lib.hid (Below.setCell (Below.drew hW.out) hsz _)⟩
        case measure => simp [intOf]
    obtain rfl : k = 3 := by omega
    replace g2 : Hid (wr.heap[w3.heap.size]? = some (.cells #[.int .i64 (a + (d - a) / 2), .int .i64 (b + (e - b) / 2), .int .i64 (c + (f - c) / 2)] 89 (0, 0))) := g2
    obtain ⟨b1, b2, b3, f1, f2, f3⟩ := cells3 g2.out
    go_wp2_with fail
    refine (position_any _ _ _ _).mono ?_
    rintro r w6 ⟨rfl, hb⟩
    replace p2 := Lib.hid (blk_b hb p2.out)
    replace hW := Lib.hid (Buf.then_ hW.out hb)
    clear hb b1 b2 b3 f1 f2 f3 c1 c2 c3
    obtain ⟨d1, d2, d3, d4, d5, d6⟩ := cells3 p2.out
    go_wp2
    exact bodyPost_ret (results_cell_row rfl _ _ (w.heap.size + 1) _ _ _ _ rfl (st3 p2.out _ _ _) rfl (by rfl) rfl) rfl ⟨rfl, st3_below hW.out (by omega) _ _ _⟩
end Geo
end Go.Proofs.YtldgihlhioeipaaGreat
