/- Contracts of package geometry: Near and Far, whatever the valid box and position. -/
import Derived.Test.YtldgihlhioeipaaGeoAI
import Derived.Test.YtldgihlhioeipaaGeoCE
import Derived.Lib.MinMax
namespace Go.Proofs.Ytldgihlhioeipaa
open Go.RowKit
namespace Geo
@[go_sem high] theorem run_max_ints3 {P : Program} (w : World) (ts : Array TypeId) (t : TypeId) (k k' k'' : IntKind) (x y z : Int) :
    (Builtin.max_ ts t #[.int k x, .int k' y, .int k'' z]).run P w = .ok (.int k (max (max x y) z)) w := by
  have e : (if y > x then y else x) = max x y := by
    rw [Int.max_def]
    split <;> split <;> omega
  have e' : (if z > max x y then z else max x y) = max (max x y) z := by
    rw [Int.max_def (max x y) z]
    split <;> split <;> omega
  simp [Builtin.max_, Builtin.max2, e, e']
def near3 (a b c d e f x y z : Int) : Int := (max (a - x) (max (x - d) 0)) * (max (a - x) (max (x - d) 0)) + (max (b - y) (max (y - e) 0)) * (max (b - y) (max (y - e) 0)) + (max (c - z) (max (z - f) 0)) * (max (c - z) (max (z - f) 0))
def nearS (a b c d e f x y z : Int) (k : Nat) : Int := match k with | 0 => 0 | 1 => (max (a - x) (max (x - d) 0)) * (max (a - x) (max (x - d) 0)) | 2 => (max (a - x) (max (x - d) 0)) * (max (a - x) (max (x - d) 0)) + (max (b - y) (max (y - e) 0)) * (max (b - y) (max (y - e) 0)) | _ => (max (a - x) (max (x - d) 0)) * (max (a - x) (max (x - d) 0)) + (max (b - y) (max (y - e) 0)) * (max (b - y) (max (y - e) 0)) + (max (c - z) (max (z - f) 0)) * (max (c - z) (max (z - f) 0))
set_option maxHeartbeats 4000000 in
set_option maxRecDepth 100000 in
theorem near_yes (a b c d e f x y z : Int) (h1 : BV a b c d e f) (h2 : PV x y z) (w : World) :
    Calls Try.prog 98 #[.agg #[.int .i64 a, .int .i64 b, .int .i64 c, .int .i64 d, .int .i64 e, .int .i64 f], .agg #[.int .i64 x, .int .i64 y, .int .i64 z]] w fun r w' => r = .returned (.int .i64 (near3 a b c d e f x y z)) ∧ Below w.heap.size w w' := by
  have V1 := Lib.hid (validBox_yes a b c d e f h1)
  have V2 := Lib.hid (valid_yes x y z h2)
  obtain ⟨⟨ax0, ax1, ay0, ay1, az0, az1⟩, ⟨dx0, dx1, dy0, dy1, dz0, dz1⟩, hx, hy, hz⟩ := h1
  obtain ⟨px0, px1, py0, py1, pz0, pz1⟩ := h2
  obtain ⟨s0, t0⟩ := sq_bd (show -2097152 ≤ max (a - x) (max (x - d) 0) by omega) (show max (a - x) (max (x - d) 0) ≤ 2097152 by omega)
  obtain ⟨s1, t1⟩ := sq_bd (show -2097152 ≤ max (b - y) (max (y - e) 0) by omega) (show max (b - y) (max (y - e) 0) ≤ 2097152 by omega)
  obtain ⟨s2, t2⟩ := sq_bd (show -2097152 ≤ max (c - z) (max (z - f) 0) by omega) (show max (c - z) (max (z - f) 0) ≤ 2097152 by omega)
  have i0 := ix0 (.int .i64 x) (.int .i64 y) (.int .i64 z)
  have i1 := ix1 (.int .i64 x) (.int .i64 y) (.int .i64 z)
  have i2 := ix2 (.int .i64 x) (.int .i64 y) (.int .i64 z)
  have p1 := Lib.hid (blk_alloc (blk_new w (.cells #[.int .i64 a, .int .i64 b, .int .i64 c, .int .i64 d, .int .i64 e, .int .i64 f] 26)) (.cells #[.int .i64 x, .int .i64 y, .int .i64 z] 24))
  have p2 := Lib.hid (blk_new1 w (.cells #[.int .i64 a, .int .i64 b, .int .i64 c, .int .i64 d, .int .i64 e, .int .i64 f] 26) (.cells #[.int .i64 x, .int .i64 y, .int .i64 z] 24))
  have hA : Hid (Below w.heap.size w ((w.alloc (.cells #[.int .i64 a, .int .i64 b, .int .i64 c, .int .i64 d, .int .i64 e, .int .i64 f] 26)).alloc (.cells #[.int .i64 x, .int .i64 y, .int .i64 z] 24))) := Lib.hid (Buf.then_ (new_block _) (new_block _))
  go_enter Try.func98, Try.ntmps98
  go_wp2_with fail
  with_reducible refine (V1.out _).mono ?_
  rintro r w1 ⟨rfl, hb⟩
  replace p1 := Lib.hid (blk_b hb p1.out)
  replace p2 := Lib.hid (blk_b hb p2.out)
  replace hA := Lib.hid (Buf.then_ hA.out hb)
  clear hb
  obtain ⟨a1, a2, a3, a4, a5, a6⟩ := cells6 p1.out
  obtain ⟨q1, q2, q3, _, _, _⟩ := cells3 p2.out
  go_wp2_with fail
  with_reducible refine (V2.out _).mono ?_
  rintro r w2 ⟨rfl, hb⟩
  replace p1 := Lib.hid (blk_b hb p1.out)
  replace p2 := Lib.hid (blk_b hb p2.out)
  replace hA := Lib.hid (Buf.then_ hA.out hb)
  clear hb a1 a2 a3 a4 a5 a6 q1 q2 q3
  obtain ⟨a1, a2, a3, a4, a5, a6⟩ := cells6 p1.out
  go_wp2_with fail
  refine (ends_any a b c d e f _).mono ?_
  rintro r w3 ⟨rfl, hb⟩
  replace p2 := Lib.hid (blk_alloc (blk_alloc (blk_b hb p2.out) (.cells #[.int .i64 a, .int .i64 b, .int .i64 c] 95)) (.cells #[.int .i64 d, .int .i64 e, .int .i64 f] 95))
  have g2 := Lib.hid (blk_alloc (blk_new w3 (.cells #[.int .i64 a, .int .i64 b, .int .i64 c] 95)) (.cells #[.int .i64 d, .int .i64 e, .int .i64 f] 95))
  have g3 := Lib.hid (blk_new1 w3 (.cells #[.int .i64 a, .int .i64 b, .int .i64 c] 95) (.cells #[.int .i64 d, .int .i64 e, .int .i64 f] 95))
  have hW : Hid (Below w.heap.size w ((w3.alloc (.cells #[.int .i64 a, .int .i64 b, .int .i64 c] 95)).alloc (.cells #[.int .i64 d, .int .i64 e, .int .i64 f] 95))) := Lib.hid (Buf.then_ (Buf.then_ (Buf.then_ hA.out hb) (new_block _)) (new_block _))
  clear hb hA a1 a2 a3 a4 a5 a6
  obtain ⟨q1, q2, q3, _, _, _⟩ := cells3 p2.out
  go_wp2_with fail
  refine (coords_any x y z _).mono ?_
  rintro r w4 ⟨rfl, hb⟩
  replace g2 := Lib.hid (blk_b hb g2.out)
  replace g3 := Lib.hid (blk_b hb g3.out)
  replace hW := Lib.hid (Buf.then_ hW.out hb)
  clear hb q1 q2 q3 p1 p2 V1 V2
  go_wp2_with fail
  go_loopw [7, 26] (fun u i wr => ∃ k : Nat, k ≤ 3 ∧ i = .int .i64 k ∧ u = .int .i64 (nearS a b c d e f x y z k) ∧ Hid (wr.heap[w3.heap.size]? = some (.cells #[.int .i64 a, .int .i64 b, .int .i64 c] 95 (0, 0))) ∧ Hid (wr.heap[w3.heap.size + 1]? = some (.cells #[.int .i64 d, .int .i64 e, .int .i64 f] 95 (0, 0))) ∧ Hid (Below w.heap.size w wr)) (fun _ i _ => (3 - intOf i).toNat)
  case atStart => exact ⟨0, by omega, rfl, rfl, g2, g3, hW⟩
  case round =>
    clear g2 g3 hW
    obtain ⟨k, hk, rfl, hu, g2, g3, hW⟩ := hrel
    obtain ⟨b1, b2, b3, _, _, _⟩ := cells3 g2.out
    obtain ⟨c1, c2, c3, _, _, _⟩ := cells3 g3.out
    by_cases h0 : k = 0
    · subst h0
      replace hu : _ = Value.int .i64 (0) := hu
      subst hu
      go_wp2
      go_quiet (fail)
      go_wp2
      go_roundw
      case rel => exact ⟨1, by omega, rfl, rfl, g2, g3, Lib.hid (Buf.below_drewN hW.out _)⟩
      case measure => simp [intOf]
    by_cases h1 : k = 1
    · subst h1
      replace hu : _ = Value.int .i64 ((max (a - x) (max (x - d) 0)) * (max (a - x) (max (x - d) 0))) := hu
      subst hu
      go_wp2
      go_quiet (fail)
      go_wp2
      go_roundw
      case rel => exact ⟨2, by omega, rfl, rfl, g2, g3, Lib.hid (Buf.below_drewN hW.out _)⟩
      case measure => simp [intOf]
    by_cases h2 : k = 2
    · subst h2
      replace hu : _ = Value.int .i64 ((max (a - x) (max (x - d) 0)) * (max (a - x) (max (x - d) 0)) + (max (b - y) (max (y - e) 0)) * (max (b - y) (max (y - e) 0))) := hu
      subst hu
      go_wp2
      go_quiet (fail)
      go_wp2
      go_roundw
      case rel => exact ⟨3, by omega, rfl, rfl, g2, g3, Lib.hid (Buf.below_drewN hW.out _)⟩
      case measure => simp [intOf]
    obtain rfl : k = 3 := by omega
    replace hu : _ = Value.int .i64 ((max (a - x) (max (x - d) 0)) * (max (a - x) (max (x - d) 0)) + (max (b - y) (max (y - e) 0)) * (max (b - y) (max (y - e) 0)) + (max (c - z) (max (z - f) 0)) * (max (c - z) (max (z - f) 0))) := hu
    subst hu
    go_wp2
    go_ret
    exact ⟨rfl, hW.out⟩
def far3 (a b c d e f x y z : Int) : Int := (max (d - x) (x - a)) * (max (d - x) (x - a)) + (max (e - y) (y - b)) * (max (e - y) (y - b)) + (max (f - z) (z - c)) * (max (f - z) (z - c))
def farS (a b c d e f x y z : Int) (k : Nat) : Int := match k with | 0 => 0 | 1 => (max (d - x) (x - a)) * (max (d - x) (x - a)) | 2 => (max (d - x) (x - a)) * (max (d - x) (x - a)) + (max (e - y) (y - b)) * (max (e - y) (y - b)) | _ => (max (d - x) (x - a)) * (max (d - x) (x - a)) + (max (e - y) (y - b)) * (max (e - y) (y - b)) + (max (f - z) (z - c)) * (max (f - z) (z - c))
set_option maxHeartbeats 4000000 in
set_option maxRecDepth 100000 in
theorem far_yes (a b c d e f x y z : Int) (h1 : BV a b c d e f) (h2 : PV x y z) (w : World) :
    Calls Try.prog 99 #[.agg #[.int .i64 a, .int .i64 b, .int .i64 c, .int .i64 d, .int .i64 e, .int .i64 f], .agg #[.int .i64 x, .int .i64 y, .int .i64 z]] w fun r w' => r = .returned (.int .i64 (far3 a b c d e f x y z)) ∧ Below w.heap.size w w' := by
  have V1 := Lib.hid (validBox_yes a b c d e f h1)
  have V2 := Lib.hid (valid_yes x y z h2)
  obtain ⟨⟨ax0, ax1, ay0, ay1, az0, az1⟩, ⟨dx0, dx1, dy0, dy1, dz0, dz1⟩, hx, hy, hz⟩ := h1
  obtain ⟨px0, px1, py0, py1, pz0, pz1⟩ := h2
  obtain ⟨s0, t0⟩ := sq_bd (show -2097152 ≤ max (d - x) (x - a) by omega) (show max (d - x) (x - a) ≤ 2097152 by omega)
  obtain ⟨s1, t1⟩ := sq_bd (show -2097152 ≤ max (e - y) (y - b) by omega) (show max (e - y) (y - b) ≤ 2097152 by omega)
  obtain ⟨s2, t2⟩ := sq_bd (show -2097152 ≤ max (f - z) (z - c) by omega) (show max (f - z) (z - c) ≤ 2097152 by omega)
  have i0 := ix0 (.int .i64 x) (.int .i64 y) (.int .i64 z)
  have i1 := ix1 (.int .i64 x) (.int .i64 y) (.int .i64 z)
  have i2 := ix2 (.int .i64 x) (.int .i64 y) (.int .i64 z)
  have p1 := Lib.hid (blk_alloc (blk_new w (.cells #[.int .i64 a, .int .i64 b, .int .i64 c, .int .i64 d, .int .i64 e, .int .i64 f] 26)) (.cells #[.int .i64 x, .int .i64 y, .int .i64 z] 24))
  have p2 := Lib.hid (blk_new1 w (.cells #[.int .i64 a, .int .i64 b, .int .i64 c, .int .i64 d, .int .i64 e, .int .i64 f] 26) (.cells #[.int .i64 x, .int .i64 y, .int .i64 z] 24))
  have hA : Hid (Below w.heap.size w ((w.alloc (.cells #[.int .i64 a, .int .i64 b, .int .i64 c, .int .i64 d, .int .i64 e, .int .i64 f] 26)).alloc (.cells #[.int .i64 x, .int .i64 y, .int .i64 z] 24))) := Lib.hid (Buf.then_ (new_block _) (new_block _))
  go_enter Try.func99, Try.ntmps99
  go_wp2_with fail
  with_reducible refine (V1.out _).mono ?_
  rintro r w1 ⟨rfl, hb⟩
  replace p1 := Lib.hid (blk_b hb p1.out)
  replace p2 := Lib.hid (blk_b hb p2.out)
  replace hA := Lib.hid (Buf.then_ hA.out hb)
  clear hb
  obtain ⟨a1, a2, a3, a4, a5, a6⟩ := cells6 p1.out
  obtain ⟨q1, q2, q3, _, _, _⟩ := cells3 p2.out
  go_wp2_with fail
  with_reducible refine (V2.out _).mono ?_
  rintro r w2 ⟨rfl, hb⟩
  replace p1 := Lib.hid (blk_b hb p1.out)
  replace p2 := Lib.hid (blk_b hb p2.out)
  replace hA := Lib.hid (Buf.then_ hA.out hb)
  clear hb a1 a2 a3 a4 a5 a6 q1 q2 q3
  obtain ⟨a1, a2, a3, a4, a5, a6⟩ := cells6 p1.out
  go_wp2_with fail
  refine (ends_any a b c d e f _).mono ?_
  rintro r w3 ⟨rfl, hb⟩
  replace p2 := Lib.hid (blk_alloc (blk_alloc (blk_b hb p2.out) (.cells #[.int .i64 a, .int .i64 b, .int .i64 c] 95)) (.cells #[.int .i64 d, .int .i64 e, .int .i64 f] 95))
  have g2 := Lib.hid (blk_alloc (blk_new w3 (.cells #[.int .i64 a, .int .i64 b, .int .i64 c] 95)) (.cells #[.int .i64 d, .int .i64 e, .int .i64 f] 95))
  have g3 := Lib.hid (blk_new1 w3 (.cells #[.int .i64 a, .int .i64 b, .int .i64 c] 95) (.cells #[.int .i64 d, .int .i64 e, .int .i64 f] 95))
  have hW : Hid (Below w.heap.size w ((w3.alloc (.cells #[.int .i64 a, .int .i64 b, .int .i64 c] 95)).alloc (.cells #[.int .i64 d, .int .i64 e, .int .i64 f] 95))) := Lib.hid (Buf.then_ (Buf.then_ (Buf.then_ hA.out hb) (new_block _)) (new_block _))
  clear hb hA a1 a2 a3 a4 a5 a6
  obtain ⟨q1, q2, q3, _, _, _⟩ := cells3 p2.out
  go_wp2_with fail
  refine (coords_any x y z _).mono ?_
  rintro r w4 ⟨rfl, hb⟩
  replace g2 := Lib.hid (blk_b hb g2.out)
  replace g3 := Lib.hid (blk_b hb g3.out)
  replace hW := Lib.hid (Buf.then_ hW.out hb)
  clear hb q1 q2 q3 p1 p2 V1 V2
  go_wp2_with fail
  go_loopw [7, 26] (fun u i wr => ∃ k : Nat, k ≤ 3 ∧ i = .int .i64 k ∧ u = .int .i64 (farS a b c d e f x y z k) ∧ Hid (wr.heap[w3.heap.size]? = some (.cells #[.int .i64 a, .int .i64 b, .int .i64 c] 95 (0, 0))) ∧ Hid (wr.heap[w3.heap.size + 1]? = some (.cells #[.int .i64 d, .int .i64 e, .int .i64 f] 95 (0, 0))) ∧ Hid (Below w.heap.size w wr)) (fun _ i _ => (3 - intOf i).toNat)
  case atStart => exact ⟨0, by omega, rfl, rfl, g2, g3, hW⟩
  case round =>
    clear g2 g3 hW
    obtain ⟨k, hk, rfl, hu, g2, g3, hW⟩ := hrel
    obtain ⟨b1, b2, b3, _, _, _⟩ := cells3 g2.out
    obtain ⟨c1, c2, c3, _, _, _⟩ := cells3 g3.out
    by_cases h0 : k = 0
    · subst h0
      replace hu : _ = Value.int .i64 (0) := hu
      subst hu
      go_wp2
      go_quiet (fail)
      go_wp2
      go_roundw
      case rel => exact ⟨1, by omega, rfl, rfl, g2, g3, Lib.hid (Buf.below_drewN hW.out _)⟩
      case measure => simp [intOf]
    by_cases h1 : k = 1
    · subst h1
      replace hu : _ = Value.int .i64 ((max (d - x) (x - a)) * (max (d - x) (x - a))) := hu
      subst hu
      go_wp2
      go_quiet (fail)
      go_wp2
      go_roundw
      case rel => exact ⟨2, by omega, rfl, rfl, g2, g3, Lib.hid (Buf.below_drewN hW.out _)⟩
      case measure => simp [intOf]
    by_cases h2 : k = 2
    · subst h2
      replace hu : _ = Value.int .i64 ((max (d - x) (x - a)) * (max (d - x) (x - a)) + (max (e - y) (y - b)) * (max (e - y) (y - b))) := hu
      subst hu
      go_wp2
      go_quiet (fail)
      go_wp2
      go_roundw
      case rel => exact ⟨3, by omega, rfl, rfl, g2, g3, Lib.hid (Buf.below_drewN hW.out _)⟩
      case measure => simp [intOf]
    obtain rfl : k = 3 := by omega
    replace hu : _ = Value.int .i64 ((max (d - x) (x - a)) * (max (d - x) (x - a)) + (max (e - y) (y - b)) * (max (e - y) (y - b)) + (max (f - z) (z - c)) * (max (f - z) (z - c))) := hu
    subst hu
    go_wp2
    go_ret
    exact ⟨rfl, hW.out⟩
end Geo
end Go.Proofs.Ytldgihlhioeipaa
