/- Contracts of package geometry at the example of the chapter. -/
import Derived.Test.YtldgihlhioeipaaGreatGeoC
import Derived.RegionTactic
namespace Go.Proofs.YtldgihlhioeipaaGreat
open Go.RowKit
namespace Geo
theorem bv : BV 0 0 0 9 4 4 := ⟨⟨by decide, by decide, by decide, by decide, by decide, by decide⟩, ⟨by decide, by decide, by decide, by decide, by decide, by decide⟩, by decide, by decide, by decide⟩
theorem pv : PV 12 2 0 := ⟨by decide, by decide, by decide, by decide, by decide, by decide⟩
def pointsAt (k : Nat) : Int := match k with | 0 => 1 | 1 => 10 | 2 => 50 | _ => 250
set_option maxHeartbeats 1000000 in
theorem points_ex (w : World) :
    Calls Tryz.prog 85 #[.agg #[.int .i64 0, .int .i64 0, .int .i64 0, .int .i64 9, .int .i64 4, .int .i64 4]] w fun r w' => r = .returned (.int .i64 250) ∧ Below w.heap.size w w' := by
  have V1 := Lib.hid (validBox_yes 0 0 0 9 4 4 bv)
  have p1 := Lib.hid (blk_new w (.cells #[.int .i64 0, .int .i64 0, .int .i64 0, .int .i64 9, .int .i64 4, .int .i64 4] 28))
  have hA : Hid (Below w.heap.size w (w.alloc (.cells #[.int .i64 0, .int .i64 0, .int .i64 0, .int .i64 9, .int .i64 4, .int .i64 4] 28))) := Lib.hid (new_block _)
  go_enter Tryz.func85, Tryz.ntmps85
  go_wp2_with fail
  with_reducible refine (V1.out _).mono ?_
  rintro r w1 ⟨rfl, hb⟩
  replace p1 := Lib.hid (blk_b hb p1.out)
  replace hA := Lib.hid (Buf.then_ hA.out hb)
  clear hb
  obtain ⟨a1, a2, a3, a4, a5, a6⟩ := cells6 p1.out
  go_wp2_with fail
  refine (ends_any 0 0 0 9 4 4 _).mono ?_
  rintro r w3 ⟨rfl, hb⟩
  replace p1 := Lib.hid (blk_alloc (blk_alloc (blk_b hb p1.out) (.cells #[.int .i64 0, .int .i64 0, .int .i64 0] 89)) (.cells #[.int .i64 9, .int .i64 4, .int .i64 4] 89))
  have g2 := Lib.hid (blk_alloc (blk_new w3 (.cells #[.int .i64 0, .int .i64 0, .int .i64 0] 89)) (.cells #[.int .i64 9, .int .i64 4, .int .i64 4] 89))
  have g3 := Lib.hid (blk_new1 w3 (.cells #[.int .i64 0, .int .i64 0, .int .i64 0] 89) (.cells #[.int .i64 9, .int .i64 4, .int .i64 4] 89))
  have hW : Hid (Below w.heap.size w ((w3.alloc (.cells #[.int .i64 0, .int .i64 0, .int .i64 0] 89)).alloc (.cells #[.int .i64 9, .int .i64 4, .int .i64 4] 89))) := Lib.hid (Buf.then_ (Buf.then_ (Buf.then_ hA.out hb) (new_block _)) (new_block _))
  clear hb hA a1 a2 a3 a4 a5 a6
  go_wp2_with fail
  go_loopw [5, 15] (fun u i wr => ∃ k : Nat, k ≤ 3 ∧ i = .int .i64 k ∧ u = .int .i64 (pointsAt k) ∧ Hid True ∧ Hid (wr.heap[w3.heap.size]? = some (.cells #[.int .i64 0, .int .i64 0, .int .i64 0] 89 (0, 0))) ∧ Hid (wr.heap[w3.heap.size + 1]? = some (.cells #[.int .i64 9, .int .i64 4, .int .i64 4] 89 (0, 0))) ∧ Hid (Below w.heap.size w wr)) (fun _ i _ => (3 - intOf i).toNat)
  case atStart => exact ⟨0, by omega, rfl, rfl, Lib.hid trivial, g2, g3, hW⟩
  case round =>
    clear g2 g3 hW
    obtain ⟨k, hk, rfl, hu, g1, g2, g3, hW⟩ := hrel
    obtain ⟨b1, b2, b3, _, _, _⟩ := cells3 g2.out
    obtain ⟨c1, c2, c3, _, _, _⟩ := cells3 g3.out
    by_cases h0 : k = 0
    · subst h0
      replace hu : _ = Value.int .i64 1 := hu
      subst hu
      go_wp2
      go_quiet (fail)
      go_wp2
      go_roundw
      case rel => exact ⟨1, by omega, rfl, rfl, g1, g2, g3, Lib.hid (Buf.below_drewN hW.out _)⟩
      case measure => simp [intOf]
    by_cases h1 : k = 1
    · subst h1
      replace hu : _ = Value.int .i64 10 := hu
      subst hu
      go_wp2
      go_quiet (fail)
      go_wp2
      go_roundw
      case rel => exact ⟨2, by omega, rfl, rfl, g1, g2, g3, Lib.hid (Buf.below_drewN hW.out _)⟩
      case measure => simp [intOf]
    by_cases h2 : k = 2
    · subst h2
      replace hu : _ = Value.int .i64 50 := hu
      subst hu
      go_wp2
      go_quiet (fail)
      go_wp2
      go_roundw
      case rel => exact ⟨3, by omega, rfl, rfl, g1, g2, g3, Lib.hid (Buf.below_drewN hW.out _)⟩
      case measure => simp [intOf]
    obtain rfl : k = 3 := by omega
    replace hu : _ = Value.int .i64 250 := hu
    subst hu
    go_wp2
    go_ret
    exact ⟨rfl, hW.out⟩
def nearAt (k : Nat) : Int := match k with | 0 => 0 | 1 => 9 | 2 => 9 | _ => 9
set_option maxHeartbeats 1000000 in
theorem near_ex (w : World) :
    Calls Tryz.prog 98 #[.agg #[.int .i64 0, .int .i64 0, .int .i64 0, .int .i64 9, .int .i64 4, .int .i64 4], .agg #[.int .i64 12, .int .i64 2, .int .i64 0]] w fun r w' => r = .returned (.int .i64 9) ∧ Below w.heap.size w w' := by
  have V1 := Lib.hid (validBox_yes 0 0 0 9 4 4 bv)
  have V2 := Lib.hid (valid_yes 12 2 0 pv)
  have i0 := ix0 (.int .i64 12) (.int .i64 2) (.int .i64 0)
  have i1 := ix1 (.int .i64 12) (.int .i64 2) (.int .i64 0)
  have i2 := ix2 (.int .i64 12) (.int .i64 2) (.int .i64 0)
  have p1 := Lib.hid (blk_alloc (blk_new w (.cells #[.int .i64 0, .int .i64 0, .int .i64 0, .int .i64 9, .int .i64 4, .int .i64 4] 28)) (.cells #[.int .i64 12, .int .i64 2, .int .i64 0] 26))
  have p2 := Lib.hid (blk_new1 w (.cells #[.int .i64 0, .int .i64 0, .int .i64 0, .int .i64 9, .int .i64 4, .int .i64 4] 28) (.cells #[.int .i64 12, .int .i64 2, .int .i64 0] 26))
  have hA : Hid (Below w.heap.size w ((w.alloc (.cells #[.int .i64 0, .int .i64 0, .int .i64 0, .int .i64 9, .int .i64 4, .int .i64 4] 28)).alloc (.cells #[.int .i64 12, .int .i64 2, .int .i64 0] 26))) := Lib.hid (Buf.then_ (new_block _) (new_block _))
  go_enter Tryz.func98, Tryz.ntmps98
  go_wp2_with fail
  with_reducible refine (V1.out _).mono ?_
  rintro r w1 ⟨rfl, hb⟩
  replace p1 := Lib.hid (blk_b hb p1.out)
  replace p2 := Lib.hid (blk_b hb p2.out)
  replace hA := Lib.hid (Buf.then_ hA.out hb)
  clear hb
  obtain ⟨a1, a2, a3, a4, a5, a6⟩ := cells6 p1.out
  obtain ⟨q1, q2, q3, _, _, _⟩ := cells3 p2.out
  go_wp2_with fail
  with_reducible refine (V2.out _).mono ?_
  rintro r w2 ⟨rfl, hb⟩
  replace p1 := Lib.hid (blk_b hb p1.out)
  replace p2 := Lib.hid (blk_b hb p2.out)
  replace hA := Lib.hid (Buf.then_ hA.out hb)
  clear hb a1 a2 a3 a4 a5 a6 q1 q2 q3
  obtain ⟨a1, a2, a3, a4, a5, a6⟩ := cells6 p1.out
  go_wp2_with fail
  refine (ends_any 0 0 0 9 4 4 _).mono ?_
  rintro r w3 ⟨rfl, hb⟩
  replace p2 := Lib.hid (blk_alloc (blk_alloc (blk_b hb p2.out) (.cells #[.int .i64 0, .int .i64 0, .int .i64 0] 89)) (.cells #[.int .i64 9, .int .i64 4, .int .i64 4] 89))
  replace p1 := Lib.hid (blk_alloc (blk_alloc (blk_b hb p1.out) (.cells #[.int .i64 0, .int .i64 0, .int .i64 0] 89)) (.cells #[.int .i64 9, .int .i64 4, .int .i64 4] 89))
  have g2 := Lib.hid (blk_alloc (blk_new w3 (.cells #[.int .i64 0, .int .i64 0, .int .i64 0] 89)) (.cells #[.int .i64 9, .int .i64 4, .int .i64 4] 89))
  have g3 := Lib.hid (blk_new1 w3 (.cells #[.int .i64 0, .int .i64 0, .int .i64 0] 89) (.cells #[.int .i64 9, .int .i64 4, .int .i64 4] 89))
  have hW : Hid (Below w.heap.size w ((w3.alloc (.cells #[.int .i64 0, .int .i64 0, .int .i64 0] 89)).alloc (.cells #[.int .i64 9, .int .i64 4, .int .i64 4] 89))) := Lib.hid (Buf.then_ (Buf.then_ (Buf.then_ hA.out hb) (new_block _)) (new_block _))
  clear hb hA a1 a2 a3 a4 a5 a6
  obtain ⟨q1, q2, q3, _, _, _⟩ := cells3 p2.out
  go_wp2_with fail
  refine (coords_any 12 2 0 _).mono ?_
  rintro r w4 ⟨rfl, hb⟩
  replace g2 := Lib.hid (blk_b hb g2.out)
  replace g3 := Lib.hid (blk_b hb g3.out)
  replace hW := Lib.hid (Buf.then_ hW.out hb)
  clear hb q1 q2 q3
  go_wp2_with fail
  go_loopw [7, 26] (fun u i wr => ∃ k : Nat, k ≤ 3 ∧ i = .int .i64 k ∧ u = .int .i64 (nearAt k) ∧ Hid True ∧ Hid (wr.heap[w3.heap.size]? = some (.cells #[.int .i64 0, .int .i64 0, .int .i64 0] 89 (0, 0))) ∧ Hid (wr.heap[w3.heap.size + 1]? = some (.cells #[.int .i64 9, .int .i64 4, .int .i64 4] 89 (0, 0))) ∧ Hid (Below w.heap.size w wr)) (fun _ i _ => (3 - intOf i).toNat)
  case atStart => exact ⟨0, by omega, rfl, rfl, Lib.hid trivial, g2, g3, hW⟩
  case round =>
    clear g2 g3 hW
    obtain ⟨k, hk, rfl, hu, g1, g2, g3, hW⟩ := hrel
    obtain ⟨b1, b2, b3, _, _, _⟩ := cells3 g2.out
    obtain ⟨c1, c2, c3, _, _, _⟩ := cells3 g3.out
    by_cases h0 : k = 0
    · subst h0
      replace hu : _ = Value.int .i64 0 := hu
      subst hu
      go_wp2
      go_quiet (fail)
      go_wp2
      go_roundw
      case rel => exact ⟨1, by omega, rfl, rfl, g1, g2, g3, Lib.hid (Buf.below_drewN hW.out _)⟩
      case measure => simp [intOf]
    by_cases h1 : k = 1
    · subst h1
      replace hu : _ = Value.int .i64 9 := hu
      subst hu
      go_wp2
      go_quiet (fail)
      go_wp2
      go_roundw
      case rel => exact ⟨2, by omega, rfl, rfl, g1, g2, g3, Lib.hid (Buf.below_drewN hW.out _)⟩
      case measure => simp [intOf]
    by_cases h2 : k = 2
    · subst h2
      replace hu : _ = Value.int .i64 9 := hu
      subst hu
      go_wp2
      go_quiet (fail)
      go_wp2
      go_roundw
      case rel => exact ⟨3, by omega, rfl, rfl, g1, g2, g3, Lib.hid (Buf.below_drewN hW.out _)⟩
      case measure => simp [intOf]
    obtain rfl : k = 3 := by omega
    replace hu : _ = Value.int .i64 9 := hu
    subst hu
    go_wp2
    go_ret
    exact ⟨rfl, hW.out⟩
def farAt (k : Nat) : Int := match k with | 0 => 0 | 1 => 144 | 2 => 148 | _ => 164
set_option maxHeartbeats 1000000 in
theorem far_ex (w : World) :
    Calls Tryz.prog 99 #[.agg #[.int .i64 0, .int .i64 0, .int .i64 0, .int .i64 9, .int .i64 4, .int .i64 4], .agg #[.int .i64 12, .int .i64 2, .int .i64 0]] w fun r w' => r = .returned (.int .i64 164) ∧ Below w.heap.size w w' := by
  have V1 := Lib.hid (validBox_yes 0 0 0 9 4 4 bv)
  have V2 := Lib.hid (valid_yes 12 2 0 pv)
  have i0 := ix0 (.int .i64 12) (.int .i64 2) (.int .i64 0)
  have i1 := ix1 (.int .i64 12) (.int .i64 2) (.int .i64 0)
  have i2 := ix2 (.int .i64 12) (.int .i64 2) (.int .i64 0)
  have p1 := Lib.hid (blk_alloc (blk_new w (.cells #[.int .i64 0, .int .i64 0, .int .i64 0, .int .i64 9, .int .i64 4, .int .i64 4] 28)) (.cells #[.int .i64 12, .int .i64 2, .int .i64 0] 26))
  have p2 := Lib.hid (blk_new1 w (.cells #[.int .i64 0, .int .i64 0, .int .i64 0, .int .i64 9, .int .i64 4, .int .i64 4] 28) (.cells #[.int .i64 12, .int .i64 2, .int .i64 0] 26))
  have hA : Hid (Below w.heap.size w ((w.alloc (.cells #[.int .i64 0, .int .i64 0, .int .i64 0, .int .i64 9, .int .i64 4, .int .i64 4] 28)).alloc (.cells #[.int .i64 12, .int .i64 2, .int .i64 0] 26))) := Lib.hid (Buf.then_ (new_block _) (new_block _))
  go_enter Tryz.func99, Tryz.ntmps99
  go_wp2_with fail
  with_reducible refine (V1.out _).mono ?_
  rintro r w1 ⟨rfl, hb⟩
  replace p1 := Lib.hid (blk_b hb p1.out)
  replace p2 := Lib.hid (blk_b hb p2.out)
  replace hA := Lib.hid (Buf.then_ hA.out hb)
  clear hb
  obtain ⟨a1, a2, a3, a4, a5, a6⟩ := cells6 p1.out
  obtain ⟨q1, q2, q3, _, _, _⟩ := cells3 p2.out
  go_wp2_with fail
  with_reducible refine (V2.out _).mono ?_
  rintro r w2 ⟨rfl, hb⟩
  replace p1 := Lib.hid (blk_b hb p1.out)
  replace p2 := Lib.hid (blk_b hb p2.out)
  replace hA := Lib.hid (Buf.then_ hA.out hb)
  clear hb a1 a2 a3 a4 a5 a6 q1 q2 q3
  obtain ⟨a1, a2, a3, a4, a5, a6⟩ := cells6 p1.out
  go_wp2_with fail
  refine (ends_any 0 0 0 9 4 4 _).mono ?_
  rintro r w3 ⟨rfl, hb⟩
  replace p2 := Lib.hid (blk_alloc (blk_alloc (blk_b hb p2.out) (.cells #[.int .i64 0, .int .i64 0, .int .i64 0] 89)) (.cells #[.int .i64 9, .int .i64 4, .int .i64 4] 89))
  replace p1 := Lib.hid (blk_alloc (blk_alloc (blk_b hb p1.out) (.cells #[.int .i64 0, .int .i64 0, .int .i64 0] 89)) (.cells #[.int .i64 9, .int .i64 4, .int .i64 4] 89))
  have g2 := Lib.hid (blk_alloc (blk_new w3 (.cells #[.int .i64 0, .int .i64 0, .int .i64 0] 89)) (.cells #[.int .i64 9, .int .i64 4, .int .i64 4] 89))
  have g3 := Lib.hid (blk_new1 w3 (.cells #[.int .i64 0, .int .i64 0, .int .i64 0] 89) (.cells #[.int .i64 9, .int .i64 4, .int .i64 4] 89))
  have hW : Hid (Below w.heap.size w ((w3.alloc (.cells #[.int .i64 0, .int .i64 0, .int .i64 0] 89)).alloc (.cells #[.int .i64 9, .int .i64 4, .int .i64 4] 89))) := Lib.hid (Buf.then_ (Buf.then_ (Buf.then_ hA.out hb) (new_block _)) (new_block _))
  clear hb hA a1 a2 a3 a4 a5 a6
  obtain ⟨q1, q2, q3, _, _, _⟩ := cells3 p2.out
  go_wp2_with fail
  refine (coords_any 12 2 0 _).mono ?_
  rintro r w4 ⟨rfl, hb⟩
  replace g2 := Lib.hid (blk_b hb g2.out)
  replace g3 := Lib.hid (blk_b hb g3.out)
  replace hW := Lib.hid (Buf.then_ hW.out hb)
  clear hb q1 q2 q3
  go_wp2_with fail
  go_loopw [7, 26] (fun u i wr => ∃ k : Nat, k ≤ 3 ∧ i = .int .i64 k ∧ u = .int .i64 (farAt k) ∧ Hid True ∧ Hid (wr.heap[w3.heap.size]? = some (.cells #[.int .i64 0, .int .i64 0, .int .i64 0] 89 (0, 0))) ∧ Hid (wr.heap[w3.heap.size + 1]? = some (.cells #[.int .i64 9, .int .i64 4, .int .i64 4] 89 (0, 0))) ∧ Hid (Below w.heap.size w wr)) (fun _ i _ => (3 - intOf i).toNat)
  case atStart => exact ⟨0, by omega, rfl, rfl, Lib.hid trivial, g2, g3, hW⟩
  case round =>
    clear g2 g3 hW
    obtain ⟨k, hk, rfl, hu, g1, g2, g3, hW⟩ := hrel
    obtain ⟨b1, b2, b3, _, _, _⟩ := cells3 g2.out
    obtain ⟨c1, c2, c3, _, _, _⟩ := cells3 g3.out
    by_cases h0 : k = 0
    · subst h0
      replace hu : _ = Value.int .i64 0 := hu
      subst hu
      go_wp2
      go_quiet (fail)
      go_wp2
      go_roundw
      case rel => exact ⟨1, by omega, rfl, rfl, g1, g2, g3, Lib.hid (Buf.below_drewN hW.out _)⟩
      case measure => simp [intOf]
    by_cases h1 : k = 1
    · subst h1
      replace hu : _ = Value.int .i64 144 := hu
      subst hu
      go_wp2
      go_quiet (fail)
      go_wp2
      go_roundw
      case rel => exact ⟨2, by omega, rfl, rfl, g1, g2, g3, Lib.hid (Buf.below_drewN hW.out _)⟩
      case measure => simp [intOf]
    by_cases h2 : k = 2
    · subst h2
      replace hu : _ = Value.int .i64 148 := hu
      subst hu
      go_wp2
      go_quiet (fail)
      go_wp2
      go_roundw
      case rel => exact ⟨3, by omega, rfl, rfl, g1, g2, g3, Lib.hid (Buf.below_drewN hW.out _)⟩
      case measure => simp [intOf]
    obtain rfl : k = 3 := by omega
    replace hu : _ = Value.int .i64 164 := hu
    subst hu
    go_wp2
    go_ret
    exact ⟨rfl, hW.out⟩
end Geo
end Go.Proofs.YtldgihlhioeipaaGreat
