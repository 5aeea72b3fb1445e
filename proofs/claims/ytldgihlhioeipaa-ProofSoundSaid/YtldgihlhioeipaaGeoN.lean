/- Contracts of package geometry: middle, Points, Center, whatever the valid box. -/
import Derived.Test.YtldgihlhioeipaaGeoM
namespace Go.Proofs.Ytldgihlhioeipaa
open Go.RowKit
namespace Geo
set_option maxRecDepth 100000 in
theorem middle_yes (x y : Int) (w : World) (x0 : -1048576 ≤ x) (x1 : x ≤ y) (y1 : y ≤ 1048576) :
    Calls Try.prog 54 #[.int .i64 x, .int .i64 y] w fun e w' => e = .returned (.int .i64 (x + (y - x) / 2)) ∧ w' = w := by
  go_enter Try.func54, Try.ntmps54
  go_wp2
  go_ret
  exact ⟨rfl, rfl⟩
/-- The number of points. -/
def pts (a b c d e f : Int) : Int := (d - a + 1) * (e - b + 1) * (f - c + 1)
def ptsAt (a b c d e f : Int) (k : Nat) : Int := match k with | 0 => 1 | 1 => (d - a + 1) | 2 => (d - a + 1) * (e - b + 1) | _ => (d - a + 1) * (e - b + 1) * (f - c + 1)
theorem pts_bd {a b c d e f : Int} (h : BV a b c d e f) : (1 ≤ (d - a + 1) * (e - b + 1) ∧ (d - a + 1) * (e - b + 1) ≤ 4398050705409) ∧ 1 ≤ (d - a + 1) * (e - b + 1) * (f - c + 1) ∧ (d - a + 1) * (e - b + 1) * (f - c + 1) ≤ 4683752477283074049 := by
  obtain ⟨⟨ax0, ax1, ay0, ay1, az0, az1⟩, ⟨dx0, dx1, dy0, dy1, dz0, dz1⟩, hx, hy, hz⟩ := h
  have k1 : 0 ≤ (d - a) * (e - b) := Int.mul_nonneg (by omega) (by omega)
  have e1 : (d - a + 1) * (e - b + 1) = (d - a) * (e - b) + (d - a) + (e - b) + 1 := by rw [Int.add_mul, Int.mul_add]; omega
  have k2 : (d - a + 1) * (e - b + 1) ≤ 2097153 * 2097153 := Int.mul_le_mul (by omega) (by omega) (by omega) (by omega)
  have k3 : 1 ≤ (d - a + 1) * (e - b + 1) := by omega
  have k4 : (d - a + 1) * (e - b + 1) * (f - c + 1) ≤ 4398050705409 * 1064961 := Int.mul_le_mul (by omega) (by omega) (by omega) (by omega)
  have k5 : 1 * 1 ≤ (d - a + 1) * (e - b + 1) * (f - c + 1) := Int.mul_le_mul (by omega) (by omega) (by omega) (by omega)
  exact ⟨⟨k3, by omega⟩, by omega, by omega⟩
set_option maxHeartbeats 8000000 in
set_option maxRecDepth 100000 in
theorem points_yes (a b c d e f : Int) (h : BV a b c d e f) (w : World) :
    Calls Try.prog 52 #[.agg #[.int .i64 a, .int .i64 b, .int .i64 c, .int .i64 d, .int .i64 e, .int .i64 f]] w fun r w' => r = .returned (.int .i64 (pts a b c d e f)) ∧ Below w.heap.size w w' := by
  have V1 := Lib.hid (validBox_yes a b c d e f h)
  obtain ⟨⟨k1, k2⟩, k3, k4⟩ := pts_bd h
  obtain ⟨⟨ax0, ax1, ay0, ay1, az0, az1⟩, ⟨dx0, dx1, dy0, dy1, dz0, dz1⟩, hx, hy, hz⟩ := h
  have p1 := Lib.hid (blk_new w (.cells #[.int .i64 a, .int .i64 b, .int .i64 c, .int .i64 d, .int .i64 e, .int .i64 f] 26))
  have hA : Hid (Below w.heap.size w (w.alloc (.cells #[.int .i64 a, .int .i64 b, .int .i64 c, .int .i64 d, .int .i64 e, .int .i64 f] 26))) := Lib.hid (new_block _)
  go_enter Try.func52, Try.ntmps52
  go_wp2_with fail
  with_reducible refine (V1.out _).mono ?_
  rintro r w1 ⟨rfl, hb⟩
  replace p1 := Lib.hid (blk_b hb p1.out)
  replace hA := Lib.hid (Buf.then_ hA.out hb)
  clear hb
  obtain ⟨u1, u2, u3, u4, u5, u6⟩ := cells6 p1.out
  go_wp2_with fail
  refine (ends_any a b c d e f _).mono ?_
  rintro r w3 ⟨rfl, hb⟩
  replace p1 := Lib.hid (blk_alloc (blk_alloc (blk_b hb p1.out) (.cells #[.int .i64 a, .int .i64 b, .int .i64 c] 95)) (.cells #[.int .i64 d, .int .i64 e, .int .i64 f] 95))
  have g2 := Lib.hid (blk_alloc (blk_new w3 (.cells #[.int .i64 a, .int .i64 b, .int .i64 c] 95)) (.cells #[.int .i64 d, .int .i64 e, .int .i64 f] 95))
  have g3 := Lib.hid (blk_new1 w3 (.cells #[.int .i64 a, .int .i64 b, .int .i64 c] 95) (.cells #[.int .i64 d, .int .i64 e, .int .i64 f] 95))
  have hW : Hid (Below w.heap.size w ((w3.alloc (.cells #[.int .i64 a, .int .i64 b, .int .i64 c] 95)).alloc (.cells #[.int .i64 d, .int .i64 e, .int .i64 f] 95))) := Lib.hid (Buf.then_ (Buf.then_ (Buf.then_ hA.out hb) (new_block _)) (new_block _))
  clear hb hA u1 u2 u3 u4 u5 u6 V1
  go_wp2_with fail
  go_loopw [5, 15] (fun u i wr => ∃ k : Nat, k ≤ 3 ∧ i = .int .i64 k ∧ u = .int .i64 (ptsAt a b c d e f k) ∧ Hid (wr.heap[w3.heap.size]? = some (.cells #[.int .i64 a, .int .i64 b, .int .i64 c] 95 (0, 0))) ∧ Hid (wr.heap[w3.heap.size + 1]? = some (.cells #[.int .i64 d, .int .i64 e, .int .i64 f] 95 (0, 0))) ∧ Hid (Below w.heap.size w wr)) (fun _ i _ => (3 - intOf i).toNat)
  case atStart => exact ⟨0, by omega, rfl, rfl, g2, g3, hW⟩
  case round =>
    clear g2 g3 hW p1
    obtain ⟨k, hk, rfl, hu, g2, g3, hW⟩ := hrel
    obtain ⟨b1, b2, b3, _, _, _⟩ := cells3 g2.out
    obtain ⟨c1, c2, c3, _, _, _⟩ := cells3 g3.out
    by_cases h0 : k = 0
    · subst h0
      replace hu : _ = Value.int .i64 (1) := hu
      subst hu
      go_wp2
      go_quiet (fail)
      go_wp2
      go_roundw
      case rel => exact ⟨1, by omega, rfl, rfl, g2, g3, Lib.hid (Buf.below_drewN hW.out _)⟩
      case measure => simp [intOf]
    by_cases h1 : k = 1
    · subst h1
      replace hu : _ = Value.int .i64 ((d - a + 1)) := hu
      subst hu
      go_wp2
      go_quiet (fail)
      go_wp2
      go_roundw
      case rel => exact ⟨2, by omega, rfl, rfl, g2, g3, Lib.hid (Buf.below_drewN hW.out _)⟩
      case measure => simp [intOf]
    by_cases h2 : k = 2
    · subst h2
      replace hu : _ = Value.int .i64 ((d - a + 1) * (e - b + 1)) := hu
      subst hu
      go_wp2
      go_quiet (fail)
      go_wp2
      go_roundw
      case rel => exact ⟨3, by omega, rfl, rfl, g2, g3, Lib.hid (Buf.below_drewN hW.out _)⟩
      case measure => simp [intOf]
    obtain rfl : k = 3 := by omega
    replace hu : _ = Value.int .i64 ((d - a + 1) * (e - b + 1) * (f - c + 1)) := hu
    subst hu
    go_wp2
    go_ret
    exact ⟨rfl, hW.out⟩
end Geo
end Go.Proofs.Ytldgihlhioeipaa
