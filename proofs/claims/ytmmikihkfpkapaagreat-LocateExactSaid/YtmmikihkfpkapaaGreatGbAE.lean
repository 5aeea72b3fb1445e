/- GbAE: texts joined. -/
import Derived.Test.YtmmikihkfpkapaaGreatGeoQ
import Derived.Test.YtmmikihkfpkapaaGreatGeoAI
import Derived.Test.YtmmikihkfpkapaaGreatInvAB
/- Package geometry at any boxes. -/
set_option linter.unusedVariables false
set_option linter.unusedSimpArgs false
namespace Go.Proofs.YtmmikihkfpkapaaGreat
open Go.RowKit
namespace Geo
/-- Whether a box is valid. -/
def bvB (a b c d e f : Int) : Bool := decide (a ≤ d) && (decide (b ≤ e) && (decide (c ≤ f) && (pvB a b c && pvB d e f)))
theorem bvB_yes {a b c d e f : Int} (h : bvB a b c d e f = true) : BV a b c d e f := by
  simp only [bvB, Bool.and_eq_true, decide_eq_true_eq] at h
  exact ⟨pvB_yes h.2.2.2.1, pvB_yes h.2.2.2.2, h.1, h.2.1, h.2.2.1⟩
theorem bvB_of {a b c d e f : Int} (h : BV a b c d e f) : bvB a b c d e f = true := by
  obtain ⟨h1, h2, h3, h4, h5⟩ := h
  simp [bvB, pvB_of h1, pvB_of h2, h3, h4, h5]
set_option maxHeartbeats 1000000 in
theorem validBox_ok (a b c d e f : Int) (hx : a ≤ d) (hy : b ≤ e) (hz : c ≤ f) (w : World) :
    Calls Tryz.prog 30 #[.agg #[.int .i64 a, .int .i64 b, .int .i64 c, .int .i64 d, .int .i64 e, .int .i64 f]] w fun r w' => r = .returned (.bool (pvB a b c && pvB d e f)) ∧ Below w.heap.size w w' := by
  have V1 := Lib.hid (valid_any a b c)
  have V2 := Lib.hid (valid_any d e f)
  obtain ⟨p1, hp1⟩ : ∃ q, q = pvB a b c := ⟨_, rfl⟩
  obtain ⟨p2, hp2⟩ : ∃ q, q = pvB d e f := ⟨_, rfl⟩
  rw [← hp1] at V1 ⊢
  rw [← hp2] at V2 ⊢
  clear hp1 hp2
  have g1 := Lib.hid (blk_new w (.cells #[.int .i64 a, .int .i64 b, .int .i64 c, .int .i64 d, .int .i64 e, .int .i64 f] 28))
  go_enter Tryz.func30, Tryz.ntmps30
  go_wp2_with fail
  refine (ends_any a b c d e f _).mono ?_
  rintro r w1 ⟨rfl, hb⟩
  replace g1 := Lib.hid (blk_alloc (blk_alloc (blk_b hb g1.out) (.cells #[.int .i64 a, .int .i64 b, .int .i64 c] 79)) (.cells #[.int .i64 d, .int .i64 e, .int .i64 f] 79))
  have g2 := Lib.hid (blk_alloc (blk_new w1 (.cells #[.int .i64 a, .int .i64 b, .int .i64 c] 79)) (.cells #[.int .i64 d, .int .i64 e, .int .i64 f] 79))
  have g3 := Lib.hid (blk_new1 w1 (.cells #[.int .i64 a, .int .i64 b, .int .i64 c] 79) (.cells #[.int .i64 d, .int .i64 e, .int .i64 f] 79))
  have hW : Hid (Below w.heap.size w ((w1.alloc (.cells #[.int .i64 a, .int .i64 b, .int .i64 c] 79)).alloc (.cells #[.int .i64 d, .int .i64 e, .int .i64 f] 79))) := Lib.hid (Buf.then_ (Buf.then_ (Buf.then_ (new_block _) hb) (new_block _)) (new_block _))
  clear hb
  go_wp2_with fail
  go_loopw [11] (fun i wr => ∃ k : Nat, k ≤ 3 ∧ i = .int .i64 k ∧ Hid (wr.heap[w.heap.size]? = some (.cells #[.int .i64 a, .int .i64 b, .int .i64 c, .int .i64 d, .int .i64 e, .int .i64 f] 28 (0, 0))) ∧ Hid (wr.heap[w1.heap.size]? = some (.cells #[.int .i64 a, .int .i64 b, .int .i64 c] 79 (0, 0))) ∧ Hid (wr.heap[w1.heap.size + 1]? = some (.cells #[.int .i64 d, .int .i64 e, .int .i64 f] 79 (0, 0))) ∧ Hid (Below w.heap.size w wr)) (fun i _ => (3 - intOf i).toNat)
  case atStart => exact ⟨0, by omega, rfl, g1, g2, g3, hW⟩
  case round =>
    clear g1 g2 g3 hW
    obtain ⟨k, hk, rfl, g1, g2, g3, hW⟩ := hrel
    obtain ⟨a1, a2, a3, a4, a5, a6⟩ := cells6 g1.out
    obtain ⟨b1, b2, b3, _, _, _⟩ := cells3 g2.out
    obtain ⟨c1, c2, c3, _, _, _⟩ := cells3 g3.out
    by_cases h0 : k = 0
    · subst h0
      go_wp2
      go_quiet (fail)
      go_wp2
      go_roundw
      case rel => exact ⟨1, by omega, rfl, g1, g2, g3, Lib.hid (Buf.below_drewN hW.out _)⟩
      case measure => simp [intOf]
    by_cases h1 : k = 1
    · subst h1
      go_wp2
      go_quiet (fail)
      go_wp2
      go_roundw
      case rel => exact ⟨2, by omega, rfl, g1, g2, g3, Lib.hid (Buf.below_drewN hW.out _)⟩
      case measure => simp [intOf]
    by_cases h2 : k = 2
    · subst h2
      go_wp2
      go_quiet (fail)
      go_wp2
      go_roundw
      case rel => exact ⟨3, by omega, rfl, g1, g2, g3, Lib.hid (Buf.below_drewN hW.out _)⟩
      case measure => simp [intOf]
    obtain rfl : k = 3 := by omega
    clear b1 b2 b3 c1 c2 c3 g2 g3
    go_wp2_with fail
    with_reducible refine (V1.out _).mono ?_
    rintro r w2 ⟨rfl, hb⟩
    obtain ⟨d1, d2, d3, d4, d5, d6⟩ := cells6 (blk_b hb g1.out)
    have hW2 := Lib.hid (Buf.then_ hW.out hb)
    clear hb hW a1 a2 a3 a4 a5 a6
    cases p1 with
    | true =>
      go_wp2_with fail
      with_reducible refine (V2.out _).mono ?_
      rintro r w3 ⟨rfl, hb⟩
      have hW3 := Lib.hid (Buf.then_ hW2.out hb)
      clear hb hW2
      go_wp2
      go_ret
      exact ⟨rfl, hW3.out⟩
    | false =>
      go_wp2_with fail
      go_ret
      exact ⟨rfl, hW2.out⟩
set_option maxHeartbeats 1000000 in
theorem validBox_no0 (a b c d e f : Int) (hx : d < a) (w : World) :
    Calls Tryz.prog 30 #[.agg #[.int .i64 a, .int .i64 b, .int .i64 c, .int .i64 d, .int .i64 e, .int .i64 f]] w fun r w' => r = .returned (.bool false) ∧ Below w.heap.size w w' := by
  have g1 := Lib.hid (blk_new w (.cells #[.int .i64 a, .int .i64 b, .int .i64 c, .int .i64 d, .int .i64 e, .int .i64 f] 28))
  go_enter Tryz.func30, Tryz.ntmps30
  go_wp2_with fail
  refine (ends_any a b c d e f _).mono ?_
  rintro r w1 ⟨rfl, hb⟩
  replace g1 := Lib.hid (blk_alloc (blk_alloc (blk_b hb g1.out) (.cells #[.int .i64 a, .int .i64 b, .int .i64 c] 79)) (.cells #[.int .i64 d, .int .i64 e, .int .i64 f] 79))
  have g2 := Lib.hid (blk_alloc (blk_new w1 (.cells #[.int .i64 a, .int .i64 b, .int .i64 c] 79)) (.cells #[.int .i64 d, .int .i64 e, .int .i64 f] 79))
  have g3 := Lib.hid (blk_new1 w1 (.cells #[.int .i64 a, .int .i64 b, .int .i64 c] 79) (.cells #[.int .i64 d, .int .i64 e, .int .i64 f] 79))
  have hW : Hid (Below w.heap.size w ((w1.alloc (.cells #[.int .i64 a, .int .i64 b, .int .i64 c] 79)).alloc (.cells #[.int .i64 d, .int .i64 e, .int .i64 f] 79))) := Lib.hid (Buf.then_ (Buf.then_ (Buf.then_ (new_block _) hb) (new_block _)) (new_block _))
  clear hb
  go_wp2_with fail
  go_loopw [11] (fun i wr => ∃ k : Nat, k ≤ 0 ∧ i = .int .i64 k ∧ Hid (wr.heap[w.heap.size]? = some (.cells #[.int .i64 a, .int .i64 b, .int .i64 c, .int .i64 d, .int .i64 e, .int .i64 f] 28 (0, 0))) ∧ Hid (wr.heap[w1.heap.size]? = some (.cells #[.int .i64 a, .int .i64 b, .int .i64 c] 79 (0, 0))) ∧ Hid (wr.heap[w1.heap.size + 1]? = some (.cells #[.int .i64 d, .int .i64 e, .int .i64 f] 79 (0, 0))) ∧ Hid (Below w.heap.size w wr)) (fun i _ => (3 - intOf i).toNat)
  case atStart => exact ⟨0, by omega, rfl, g1, g2, g3, hW⟩
  case round =>
    clear g1 g2 g3 hW
    obtain ⟨k, hk, rfl, g1, g2, g3, hW⟩ := hrel
    obtain ⟨a1, a2, a3, a4, a5, a6⟩ := cells6 g1.out
    obtain ⟨b1, b2, b3, _, _, _⟩ := cells3 g2.out
    obtain ⟨c1, c2, c3, _, _, _⟩ := cells3 g3.out
    obtain rfl : k = 0 := by omega
    go_wp2
    go_quiet (fail)
    go_wp2
    go_ret
    exact ⟨rfl, Buf.below_drewN hW.out _⟩
set_option maxHeartbeats 1000000 in
theorem validBox_no1 (a b c d e f : Int) (hx : a ≤ d) (hy : e < b) (w : World) :
    Calls Tryz.prog 30 #[.agg #[.int .i64 a, .int .i64 b, .int .i64 c, .int .i64 d, .int .i64 e, .int .i64 f]] w fun r w' => r = .returned (.bool false) ∧ Below w.heap.size w w' := by
  have g1 := Lib.hid (blk_new w (.cells #[.int .i64 a, .int .i64 b, .int .i64 c, .int .i64 d, .int .i64 e, .int .i64 f] 28))
  go_enter Tryz.func30, Tryz.ntmps30
  go_wp2_with fail
  refine (ends_any a b c d e f _).mono ?_
  rintro r w1 ⟨rfl, hb⟩
  replace g1 := Lib.hid (blk_alloc (blk_alloc (blk_b hb g1.out) (.cells #[.int .i64 a, .int .i64 b, .int .i64 c] 79)) (.cells #[.int .i64 d, .int .i64 e, .int .i64 f] 79))
  have g2 := Lib.hid (blk_alloc (blk_new w1 (.cells #[.int .i64 a, .int .i64 b, .int .i64 c] 79)) (.cells #[.int .i64 d, .int .i64 e, .int .i64 f] 79))
  have g3 := Lib.hid (blk_new1 w1 (.cells #[.int .i64 a, .int .i64 b, .int .i64 c] 79) (.cells #[.int .i64 d, .int .i64 e, .int .i64 f] 79))
  have hW : Hid (Below w.heap.size w ((w1.alloc (.cells #[.int .i64 a, .int .i64 b, .int .i64 c] 79)).alloc (.cells #[.int .i64 d, .int .i64 e, .int .i64 f] 79))) := Lib.hid (Buf.then_ (Buf.then_ (Buf.then_ (new_block _) hb) (new_block _)) (new_block _))
  clear hb
  go_wp2_with fail
  go_loopw [11] (fun i wr => ∃ k : Nat, k ≤ 1 ∧ i = .int .i64 k ∧ Hid (wr.heap[w.heap.size]? = some (.cells #[.int .i64 a, .int .i64 b, .int .i64 c, .int .i64 d, .int .i64 e, .int .i64 f] 28 (0, 0))) ∧ Hid (wr.heap[w1.heap.size]? = some (.cells #[.int .i64 a, .int .i64 b, .int .i64 c] 79 (0, 0))) ∧ Hid (wr.heap[w1.heap.size + 1]? = some (.cells #[.int .i64 d, .int .i64 e, .int .i64 f] 79 (0, 0))) ∧ Hid (Below w.heap.size w wr)) (fun i _ => (3 - intOf i).toNat)
  case atStart => exact ⟨0, by omega, rfl, g1, g2, g3, hW⟩
  case round =>
    clear g1 g2 g3 hW
    obtain ⟨k, hk, rfl, g1, g2, g3, hW⟩ := hrel
    obtain ⟨a1, a2, a3, a4, a5, a6⟩ := cells6 g1.out
    obtain ⟨b1, b2, b3, _, _, _⟩ := cells3 g2.out
    obtain ⟨c1, c2, c3, _, _, _⟩ := cells3 g3.out
    by_cases h0 : k = 0
    · subst h0
      go_wp2
      go_quiet (fail)
      go_wp2
      go_roundw
      case rel => exact ⟨1, by omega, rfl, g1, g2, g3, Lib.hid (Buf.below_drewN hW.out _)⟩
      case measure => simp [intOf]
    obtain rfl : k = 1 := by omega
    go_wp2
    go_quiet (fail)
    go_wp2
    go_ret
    exact ⟨rfl, Buf.below_drewN hW.out _⟩
set_option maxHeartbeats 1000000 in
theorem validBox_no2 (a b c d e f : Int) (hx : a ≤ d) (hy : b ≤ e) (hz : f < c) (w : World) :
    Calls Tryz.prog 30 #[.agg #[.int .i64 a, .int .i64 b, .int .i64 c, .int .i64 d, .int .i64 e, .int .i64 f]] w fun r w' => r = .returned (.bool false) ∧ Below w.heap.size w w' := by
  have g1 := Lib.hid (blk_new w (.cells #[.int .i64 a, .int .i64 b, .int .i64 c, .int .i64 d, .int .i64 e, .int .i64 f] 28))
  go_enter Tryz.func30, Tryz.ntmps30
  go_wp2_with fail
  refine (ends_any a b c d e f _).mono ?_
  rintro r w1 ⟨rfl, hb⟩
  replace g1 := Lib.hid (blk_alloc (blk_alloc (blk_b hb g1.out) (.cells #[.int .i64 a, .int .i64 b, .int .i64 c] 79)) (.cells #[.int .i64 d, .int .i64 e, .int .i64 f] 79))
  have g2 := Lib.hid (blk_alloc (blk_new w1 (.cells #[.int .i64 a, .int .i64 b, .int .i64 c] 79)) (.cells #[.int .i64 d, .int .i64 e, .int .i64 f] 79))
  have g3 := Lib.hid (blk_new1 w1 (.cells #[.int .i64 a, .int .i64 b, .int .i64 c] 79) (.cells #[.int .i64 d, .int .i64 e, .int .i64 f] 79))
  have hW : Hid (Below w.heap.size w ((w1.alloc (.cells #[.int .i64 a, .int .i64 b, .int .i64 c] 79)).alloc (.cells #[.int .i64 d, .int .i64 e, .int .i64 f] 79))) := Lib.hid (Buf.then_ (Buf.then_ (Buf.then_ (new_block _) hb) (new_block _)) (new_block _))
  clear hb
  go_wp2_with fail
  go_loopw [11] (fun i wr => ∃ k : Nat, k ≤ 2 ∧ i = .int .i64 k ∧ Hid (wr.heap[w.heap.size]? = some (.cells #[.int .i64 a, .int .i64 b, .int .i64 c, .int .i64 d, .int .i64 e, .int .i64 f] 28 (0, 0))) ∧ Hid (wr.heap[w1.heap.size]? = some (.cells #[.int .i64 a, .int .i64 b, .int .i64 c] 79 (0, 0))) ∧ Hid (wr.heap[w1.heap.size + 1]? = some (.cells #[.int .i64 d, .int .i64 e, .int .i64 f] 79 (0, 0))) ∧ Hid (Below w.heap.size w wr)) (fun i _ => (3 - intOf i).toNat)
  case atStart => exact ⟨0, by omega, rfl, g1, g2, g3, hW⟩
  case round =>
    clear g1 g2 g3 hW
    obtain ⟨k, hk, rfl, g1, g2, g3, hW⟩ := hrel
    obtain ⟨a1, a2, a3, a4, a5, a6⟩ := cells6 g1.out
    obtain ⟨b1, b2, b3, _, _, _⟩ := cells3 g2.out
    obtain ⟨c1, c2, c3, _, _, _⟩ := cells3 g3.out
    by_cases h0 : k = 0
    · subst h0
      go_wp2
      go_quiet (fail)
      go_wp2
      go_roundw
      case rel => exact ⟨1, by omega, rfl, g1, g2, g3, Lib.hid (Buf.below_drewN hW.out _)⟩
      case measure => simp [intOf]
    by_cases h1 : k = 1
    · subst h1
      go_wp2
      go_quiet (fail)
      go_wp2
      go_roundw
      case rel => exact ⟨2, by omega, rfl, g1, g2, g3, Lib.hid (Buf.below_drewN hW.out _)⟩
      case measure => simp [intOf]
    obtain rfl : k = 2 := by omega
    go_wp2
    go_quiet (fail)
    go_wp2
    go_ret
    exact ⟨rfl, Buf.below_drewN hW.out _⟩
theorem validBox_any (a b c d e f : Int) (w : World) :
    Calls Tryz.prog 30 #[.agg #[.int .i64 a, .int .i64 b, .int .i64 c, .int .i64 d, .int .i64 e, .int .i64 f]] w fun r w' => r = .returned (.bool (bvB a b c d e f)) ∧ Below w.heap.size w w' := by
  unfold bvB
  by_cases hx : a ≤ d
  · rw [decide_eq_true hx, Bool.true_and]
    by_cases hy : b ≤ e
    · rw [decide_eq_true hy, Bool.true_and]
      by_cases hz : c ≤ f
      · rw [decide_eq_true hz, Bool.true_and]
        exact validBox_ok a b c d e f hx hy hz w
      · rw [decide_eq_false hz, Bool.false_and]
        exact validBox_no2 a b c d e f hx hy (by omega) w
    · rw [decide_eq_false hy, Bool.false_and]
      exact validBox_no1 a b c d e f hx (by omega) w
  · rw [decide_eq_false hx, Bool.false_and]
    exact validBox_no0 a b c d e f (by omega) w
end Geo
end Go.Proofs.YtmmikihkfpkapaaGreat

/- Package geometry at any boxes: Near, Far, Points, Center. -/
set_option linter.unusedVariables false
set_option linter.unusedSimpArgs false
namespace Go.Proofs.YtmmikihkfpkapaaGreat
open Go.RowKit
namespace Geo
set_option maxHeartbeats 8000000 in
set_option maxRecDepth 100000 in
theorem near_no1 (a b c d e f x y z : Int) (h1 : bvB a b c d e f = false) (w : World) :
    Calls Tryz.prog 74 #[.agg #[.int .i64 a, .int .i64 b, .int .i64 c, .int .i64 d, .int .i64 e, .int .i64 f], .agg #[.int .i64 x, .int .i64 y, .int .i64 z]] w fun r w' => r = .returned (.int .i64 0) ∧ Below w.heap.size w w' := by
  have V1 := Lib.hid fun w => validBox_any a b c d e f w
  rw [h1] at V1
  clear h1
  go_enter Tryz.func74, Tryz.ntmps74
  have hA := Lib.hid (Buf.then_ (new_block (w := w) (.cells #[.int .i64 a, .int .i64 b, .int .i64 c, .int .i64 d, .int .i64 e, .int .i64 f] 28)) (new_block (.cells #[.int .i64 x, .int .i64 y, .int .i64 z] 26)))
  go_wp2_with fail
  with_reducible refine (V1.out _).mono ?_
  rintro r w1 ⟨rfl, hb⟩
  replace hA := Lib.hid (Buf.then_ hA.out hb)
  clear hb
  go_wp2_with fail
  go_ret
  exact ⟨rfl, hA.out⟩
set_option maxHeartbeats 8000000 in
set_option maxRecDepth 100000 in
theorem near_no2 (a b c d e f x y z : Int) (h1 : bvB a b c d e f = true) (h2 : pvB x y z = false) (w : World) :
    Calls Tryz.prog 74 #[.agg #[.int .i64 a, .int .i64 b, .int .i64 c, .int .i64 d, .int .i64 e, .int .i64 f], .agg #[.int .i64 x, .int .i64 y, .int .i64 z]] w fun r w' => r = .returned (.int .i64 0) ∧ Below w.heap.size w w' := by
  have V1 := Lib.hid fun w => validBox_any a b c d e f w
  rw [h1] at V1
  have V2 := Lib.hid fun w => valid_any x y z w
  rw [h2] at V2
  clear h1 h2
  go_enter Tryz.func74, Tryz.ntmps74
  have hA := Lib.hid (Buf.then_ (new_block (w := w) (.cells #[.int .i64 a, .int .i64 b, .int .i64 c, .int .i64 d, .int .i64 e, .int .i64 f] 28)) (new_block (.cells #[.int .i64 x, .int .i64 y, .int .i64 z] 26)))
  have p2 := Lib.hid (blk_new1 w (.cells #[.int .i64 a, .int .i64 b, .int .i64 c, .int .i64 d, .int .i64 e, .int .i64 f] 28) (.cells #[.int .i64 x, .int .i64 y, .int .i64 z] 26))
  go_wp2_with fail
  with_reducible refine (V1.out _).mono ?_
  rintro r w1 ⟨rfl, hb⟩
  replace p2 := Lib.hid (blk_b hb p2.out)
  replace hA := Lib.hid (Buf.then_ hA.out hb)
  clear hb
  obtain ⟨q1, q2, q3, _, _, _⟩ := cells3 p2.out
  go_wp2_with fail
  with_reducible refine (V2.out _).mono ?_
  rintro r w2 ⟨rfl, hb⟩
  replace hA := Lib.hid (Buf.then_ hA.out hb)
  clear hb
  go_wp2_with fail
  go_ret
  exact ⟨rfl, hA.out⟩
set_option maxHeartbeats 8000000 in
set_option maxRecDepth 100000 in
theorem far_no1 (a b c d e f x y z : Int) (h1 : bvB a b c d e f = false) (w : World) :
    Calls Tryz.prog 75 #[.agg #[.int .i64 a, .int .i64 b, .int .i64 c, .int .i64 d, .int .i64 e, .int .i64 f], .agg #[.int .i64 x, .int .i64 y, .int .i64 z]] w fun r w' => r = .returned (.int .i64 0) ∧ Below w.heap.size w w' := by
  have V1 := Lib.hid fun w => validBox_any a b c d e f w
  rw [h1] at V1
  clear h1
  go_enter Tryz.func75, Tryz.ntmps75
  have hA := Lib.hid (Buf.then_ (new_block (w := w) (.cells #[.int .i64 a, .int .i64 b, .int .i64 c, .int .i64 d, .int .i64 e, .int .i64 f] 28)) (new_block (.cells #[.int .i64 x, .int .i64 y, .int .i64 z] 26)))
  go_wp2_with fail
  with_reducible refine (V1.out _).mono ?_
  rintro r w1 ⟨rfl, hb⟩
  replace hA := Lib.hid (Buf.then_ hA.out hb)
  clear hb
  go_wp2_with fail
  go_ret
  exact ⟨rfl, hA.out⟩
set_option maxHeartbeats 8000000 in
set_option maxRecDepth 100000 in
theorem far_no2 (a b c d e f x y z : Int) (h1 : bvB a b c d e f = true) (h2 : pvB x y z = false) (w : World) :
    Calls Tryz.prog 75 #[.agg #[.int .i64 a, .int .i64 b, .int .i64 c, .int .i64 d, .int .i64 e, .int .i64 f], .agg #[.int .i64 x, .int .i64 y, .int .i64 z]] w fun r w' => r = .returned (.int .i64 0) ∧ Below w.heap.size w w' := by
  have V1 := Lib.hid fun w => validBox_any a b c d e f w
  rw [h1] at V1
  have V2 := Lib.hid fun w => valid_any x y z w
  rw [h2] at V2
  clear h1 h2
  go_enter Tryz.func75, Tryz.ntmps75
  have hA := Lib.hid (Buf.then_ (new_block (w := w) (.cells #[.int .i64 a, .int .i64 b, .int .i64 c, .int .i64 d, .int .i64 e, .int .i64 f] 28)) (new_block (.cells #[.int .i64 x, .int .i64 y, .int .i64 z] 26)))
  have p2 := Lib.hid (blk_new1 w (.cells #[.int .i64 a, .int .i64 b, .int .i64 c, .int .i64 d, .int .i64 e, .int .i64 f] 28) (.cells #[.int .i64 x, .int .i64 y, .int .i64 z] 26))
  go_wp2_with fail
  with_reducible refine (V1.out _).mono ?_
  rintro r w1 ⟨rfl, hb⟩
  replace p2 := Lib.hid (blk_b hb p2.out)
  replace hA := Lib.hid (Buf.then_ hA.out hb)
  clear hb
  obtain ⟨q1, q2, q3, _, _, _⟩ := cells3 p2.out
  go_wp2_with fail
  with_reducible refine (V2.out _).mono ?_
  rintro r w2 ⟨rfl, hb⟩
  replace hA := Lib.hid (Buf.then_ hA.out hb)
  clear hb
  go_wp2_with fail
  go_ret
  exact ⟨rfl, hA.out⟩
set_option maxHeartbeats 8000000 in
set_option maxRecDepth 100000 in
theorem points_no (a b c d e f : Int) (h1 : bvB a b c d e f = false) (w : World) :
    Calls Tryz.prog 62 #[.agg #[.int .i64 a, .int .i64 b, .int .i64 c, .int .i64 d, .int .i64 e, .int .i64 f]] w fun r w' => r = .returned (.int .i64 0) ∧ Below w.heap.size w w' := by
  have V1 := Lib.hid fun w => validBox_any a b c d e f w
  rw [h1] at V1
  clear h1
  go_enter Tryz.func62, Tryz.ntmps62
  have hA := Lib.hid (new_block (w := w) (.cells #[.int .i64 a, .int .i64 b, .int .i64 c, .int .i64 d, .int .i64 e, .int .i64 f] 28))
  go_wp2_with fail
  with_reducible refine (V1.out _).mono ?_
  rintro r w1 ⟨rfl, hb⟩
  replace hA := Lib.hid (Buf.then_ hA.out hb)
  clear hb
  go_wp2_with fail
  go_ret
  exact ⟨rfl, hA.out⟩
set_option maxHeartbeats 8000000 in
set_option maxRecDepth 100000 in
theorem withinv_no1 (a b c d e f a' b' c' d' e' f' : Int) (h1 : bvB a b c d e f = false) (w : World) :
    Calls Tryz.prog 76 #[.agg #[.int .i64 a, .int .i64 b, .int .i64 c, .int .i64 d, .int .i64 e, .int .i64 f], .agg #[.int .i64 a', .int .i64 b', .int .i64 c', .int .i64 d', .int .i64 e', .int .i64 f']] w fun r w' => r = .returned (.bool false) ∧ Below w.heap.size w w' := by
  have V1 := Lib.hid fun w => validBox_any a b c d e f w
  rw [h1] at V1
  clear h1
  go_enter Tryz.func76, Tryz.ntmps76
  have hA := Lib.hid (Buf.then_ (new_block (w := w) (.cells #[.int .i64 a, .int .i64 b, .int .i64 c, .int .i64 d, .int .i64 e, .int .i64 f] 28)) (new_block (.cells #[.int .i64 a', .int .i64 b', .int .i64 c', .int .i64 d', .int .i64 e', .int .i64 f'] 28)))
  go_wp2_with fail
  with_reducible refine (V1.out _).mono ?_
  rintro r w1 ⟨rfl, hb⟩
  replace hA := Lib.hid (Buf.then_ hA.out hb)
  clear hb
  go_wp2_with fail
  go_ret
  exact ⟨rfl, hA.out⟩
set_option maxHeartbeats 8000000 in
set_option maxRecDepth 100000 in
theorem withinv_no2 (a b c d e f a' b' c' d' e' f' : Int) (h1 : bvB a b c d e f = true) (h2 : bvB a' b' c' d' e' f' = false) (w : World) :
    Calls Tryz.prog 76 #[.agg #[.int .i64 a, .int .i64 b, .int .i64 c, .int .i64 d, .int .i64 e, .int .i64 f], .agg #[.int .i64 a', .int .i64 b', .int .i64 c', .int .i64 d', .int .i64 e', .int .i64 f']] w fun r w' => r = .returned (.bool false) ∧ Below w.heap.size w w' := by
  have V1 := Lib.hid fun w => validBox_any a b c d e f w
  rw [h1] at V1
  have V2 := Lib.hid fun w => validBox_any a' b' c' d' e' f' w
  rw [h2] at V2
  clear h1 h2
  go_enter Tryz.func76, Tryz.ntmps76
  have hA := Lib.hid (Buf.then_ (new_block (w := w) (.cells #[.int .i64 a, .int .i64 b, .int .i64 c, .int .i64 d, .int .i64 e, .int .i64 f] 28)) (new_block (.cells #[.int .i64 a', .int .i64 b', .int .i64 c', .int .i64 d', .int .i64 e', .int .i64 f'] 28)))
  have p2 := Lib.hid (blk_new1 w (.cells #[.int .i64 a, .int .i64 b, .int .i64 c, .int .i64 d, .int .i64 e, .int .i64 f] 28) (.cells #[.int .i64 a', .int .i64 b', .int .i64 c', .int .i64 d', .int .i64 e', .int .i64 f'] 28))
  go_wp2_with fail
  with_reducible refine (V1.out _).mono ?_
  rintro r w1 ⟨rfl, hb⟩
  replace p2 := Lib.hid (blk_b hb p2.out)
  replace hA := Lib.hid (Buf.then_ hA.out hb)
  clear hb
  obtain ⟨q1, q2, q3, q4, q5, q6⟩ := cells6 p2.out
  go_wp2_with fail
  with_reducible refine (V2.out _).mono ?_
  rintro r w2 ⟨rfl, hb⟩
  replace hA := Lib.hid (Buf.then_ hA.out hb)
  clear hb
  go_wp2_with fail
  go_ret
  exact ⟨rfl, hA.out⟩
end Geo
end Go.Proofs.YtmmikihkfpkapaaGreat

/- The reference of layer 24: Valid, square. -/
namespace Go.Proofs.YtmmikihkfpkapaaGreat
open Go.RowKit
namespace Geo
set_option maxHeartbeats 1000000 in
theorem rvalid_any (x y z : Int) (w : World) :
    Calls Tryz.prog 81 #[.agg #[.int .i64 x, .int .i64 y, .int .i64 z]] w fun e w' => e = .returned (.bool (pvB x y z)) ∧ Below w.heap.size w w' := by
  have hW := Lib.hid (new_block (w := w) (.cells #[.int .i64 x, .int .i64 y, .int .i64 z] 26))
  obtain ⟨c1, c2, c3, _, _, _⟩ := cells3 (blk_new w (.cells #[.int .i64 x, .int .i64 y, .int .i64 z] 26))
  cases h : pvB x y z with
  | true =>
    obtain ⟨x0, x1, y0, y1, z0, z1⟩ := pvB_yes h
    clear h
    go_enter Tryz.func81, Tryz.ntmps81
    go_wp2
    go_ret
    exact ⟨rfl, hW.out⟩
  | false =>
    have ho : x < -1048576 ∨ (-1048576 ≤ x ∧ 1048576 < x) ∨ (-1048576 ≤ x ∧ x ≤ 1048576 ∧ y < -1048576) ∨ (-1048576 ≤ x ∧ x ≤ 1048576 ∧ -1048576 ≤ y ∧ 1048576 < y) ∨ (-1048576 ≤ x ∧ x ≤ 1048576 ∧ -1048576 ≤ y ∧ y ≤ 1048576 ∧ z < -16384) ∨ (-1048576 ≤ x ∧ x ≤ 1048576 ∧ -1048576 ≤ y ∧ y ≤ 1048576 ∧ -16384 ≤ z ∧ 1048576 < z) := by
      simp only [pvB, decide_eq_false_iff_not] at h; omega
    clear h
    rcases ho with h | ⟨h1, h⟩ | ⟨h1, h2, h⟩ | ⟨h1, h2, h3, h⟩ | ⟨h1, h2, h3, h4, h⟩ | ⟨h1, h2, h3, h4, h5, h⟩
    all_goals
      go_enter Tryz.func81, Tryz.ntmps81
      go_wp2
      go_ret
      first
        | exact ⟨rfl, hW.out⟩
        | exact ⟨by show Ending.returned (.bool (decide (z ≤ 1048576))) = _; rw [decide_eq_false (by omega)], hW.out⟩
theorem rsq_any (x : Int) (w : World) (h0 : -2097152 ≤ x) (h1 : x ≤ 2097152) : Calls Tryz.prog 96 #[.int .i64 x] w fun e w' => e = .returned (.int .i64 (x * x)) ∧ w' = w := by
  obtain ⟨s0, s1⟩ := sq_bd h0 h1
  go_enter Tryz.func96, Tryz.ntmps96
  go_wp2
  go_ret
  exact ⟨rfl, rfl⟩
end Geo
end Go.Proofs.YtmmikihkfpkapaaGreat

/- The reference of layer 24 at any boxes. -/
set_option linter.unusedVariables false
set_option linter.unusedSimpArgs false
namespace Go.Proofs.YtmmikihkfpkapaaGreat
open Go.RowKit
namespace Geo
set_option maxHeartbeats 8000000 in
set_option maxRecDepth 100000 in
theorem rvb_0 (a b c d e f : Int) (k1 : pvB a b c = false) (w : World) :
    Calls Tryz.prog 63 #[.agg #[.int .i64 a, .int .i64 b, .int .i64 c, .int .i64 d, .int .i64 e, .int .i64 f]] w fun r w' => r = .returned (.bool false) ∧ Below w.heap.size w w' := by
  have V1 := Lib.hid fun w => rvalid_any a b c w
  rw [k1] at V1
  clear k1
  have p1 := Lib.hid (blk_new w (.cells #[.int .i64 a, .int .i64 b, .int .i64 c, .int .i64 d, .int .i64 e, .int .i64 f] 28))
  have hA := Lib.hid (new_block (w := w) (.cells #[.int .i64 a, .int .i64 b, .int .i64 c, .int .i64 d, .int .i64 e, .int .i64 f] 28))
  go_enter Tryz.func63, Tryz.ntmps63
  go_wp2_with fail
  with_reducible refine (V1.out _).mono ?_
  rintro r w1 ⟨rfl, hb⟩
  replace p1 := Lib.hid (blk_b hb p1.out)
  replace hA := Lib.hid (Buf.then_ hA.out hb)
  clear hb
  obtain ⟨u1, u2, u3, u4, u5, u6⟩ := cells6 p1.out
  go_wp2_with fail
  go_ret
  exact ⟨rfl, hA.out⟩
set_option maxHeartbeats 8000000 in
set_option maxRecDepth 100000 in
theorem rvb_1 (a b c d e f : Int) (k1 : pvB a b c = true) (k2 : pvB d e f = false) (w : World) :
    Calls Tryz.prog 63 #[.agg #[.int .i64 a, .int .i64 b, .int .i64 c, .int .i64 d, .int .i64 e, .int .i64 f]] w fun r w' => r = .returned (.bool false) ∧ Below w.heap.size w w' := by
  have V1 := Lib.hid fun w => rvalid_any a b c w
  rw [k1] at V1
  have V2 := Lib.hid fun w => rvalid_any d e f w
  rw [k2] at V2
  clear k1 k2
  have p1 := Lib.hid (blk_new w (.cells #[.int .i64 a, .int .i64 b, .int .i64 c, .int .i64 d, .int .i64 e, .int .i64 f] 28))
  have hA := Lib.hid (new_block (w := w) (.cells #[.int .i64 a, .int .i64 b, .int .i64 c, .int .i64 d, .int .i64 e, .int .i64 f] 28))
  go_enter Tryz.func63, Tryz.ntmps63
  go_wp2_with fail
  with_reducible refine (V1.out _).mono ?_
  rintro r w1 ⟨rfl, hb⟩
  replace p1 := Lib.hid (blk_b hb p1.out)
  replace hA := Lib.hid (Buf.then_ hA.out hb)
  clear hb
  obtain ⟨u1, u2, u3, u4, u5, u6⟩ := cells6 p1.out
  go_wp2_with fail
  with_reducible refine (V2.out _).mono ?_
  rintro r w2 ⟨rfl, hb⟩
  replace p1 := Lib.hid (blk_b hb p1.out)
  replace hA := Lib.hid (Buf.then_ hA.out hb)
  clear hb
  clear u1 u2 u3 u4 u5 u6
  obtain ⟨u1, u2, u3, u4, u5, u6⟩ := cells6 p1.out
  go_wp2_with fail
  go_ret
  exact ⟨rfl, hA.out⟩
set_option maxHeartbeats 8000000 in
set_option maxRecDepth 100000 in
theorem rvb_2 (a b c d e f : Int) (k1 : pvB a b c = true) (k2 : pvB d e f = true) (hx : d < a) (w : World) :
    Calls Tryz.prog 63 #[.agg #[.int .i64 a, .int .i64 b, .int .i64 c, .int .i64 d, .int .i64 e, .int .i64 f]] w fun r w' => r = .returned (.bool false) ∧ Below w.heap.size w w' := by
  have V1 := Lib.hid fun w => rvalid_any a b c w
  rw [k1] at V1
  have V2 := Lib.hid fun w => rvalid_any d e f w
  rw [k2] at V2
  clear k1 k2
  have p1 := Lib.hid (blk_new w (.cells #[.int .i64 a, .int .i64 b, .int .i64 c, .int .i64 d, .int .i64 e, .int .i64 f] 28))
  have hA := Lib.hid (new_block (w := w) (.cells #[.int .i64 a, .int .i64 b, .int .i64 c, .int .i64 d, .int .i64 e, .int .i64 f] 28))
  go_enter Tryz.func63, Tryz.ntmps63
  go_wp2_with fail
  with_reducible refine (V1.out _).mono ?_
  rintro r w1 ⟨rfl, hb⟩
  replace p1 := Lib.hid (blk_b hb p1.out)
  replace hA := Lib.hid (Buf.then_ hA.out hb)
  clear hb
  obtain ⟨u1, u2, u3, u4, u5, u6⟩ := cells6 p1.out
  go_wp2_with fail
  with_reducible refine (V2.out _).mono ?_
  rintro r w2 ⟨rfl, hb⟩
  replace p1 := Lib.hid (blk_b hb p1.out)
  replace hA := Lib.hid (Buf.then_ hA.out hb)
  clear hb
  clear u1 u2 u3 u4 u5 u6
  obtain ⟨u1, u2, u3, u4, u5, u6⟩ := cells6 p1.out
  go_wp2_with fail
  go_ret
  exact ⟨rfl, hA.out⟩
set_option maxHeartbeats 8000000 in
set_option maxRecDepth 100000 in
theorem rvb_3 (a b c d e f : Int) (k1 : pvB a b c = true) (k2 : pvB d e f = true) (hx : a ≤ d) (hy : e < b) (w : World) :
    Calls Tryz.prog 63 #[.agg #[.int .i64 a, .int .i64 b, .int .i64 c, .int .i64 d, .int .i64 e, .int .i64 f]] w fun r w' => r = .returned (.bool false) ∧ Below w.heap.size w w' := by
  have V1 := Lib.hid fun w => rvalid_any a b c w
  rw [k1] at V1
  have V2 := Lib.hid fun w => rvalid_any d e f w
  rw [k2] at V2
  clear k1 k2
  have p1 := Lib.hid (blk_new w (.cells #[.int .i64 a, .int .i64 b, .int .i64 c, .int .i64 d, .int .i64 e, .int .i64 f] 28))
  have hA := Lib.hid (new_block (w := w) (.cells #[.int .i64 a, .int .i64 b, .int .i64 c, .int .i64 d, .int .i64 e, .int .i64 f] 28))
  go_enter Tryz.func63, Tryz.ntmps63
  go_wp2_with fail
  with_reducible refine (V1.out _).mono ?_
  rintro r w1 ⟨rfl, hb⟩
  replace p1 := Lib.hid (blk_b hb p1.out)
  replace hA := Lib.hid (Buf.then_ hA.out hb)
  clear hb
  obtain ⟨u1, u2, u3, u4, u5, u6⟩ := cells6 p1.out
  go_wp2_with fail
  with_reducible refine (V2.out _).mono ?_
  rintro r w2 ⟨rfl, hb⟩
  replace p1 := Lib.hid (blk_b hb p1.out)
  replace hA := Lib.hid (Buf.then_ hA.out hb)
  clear hb
  clear u1 u2 u3 u4 u5 u6
  obtain ⟨u1, u2, u3, u4, u5, u6⟩ := cells6 p1.out
  go_wp2_with fail
  go_ret
  exact ⟨rfl, hA.out⟩
set_option maxHeartbeats 8000000 in
set_option maxRecDepth 100000 in
theorem rvb_4 (a b c d e f : Int) (k1 : pvB a b c = true) (k2 : pvB d e f = true) (hx : a ≤ d) (hy : b ≤ e) (w : World) :
    Calls Tryz.prog 63 #[.agg #[.int .i64 a, .int .i64 b, .int .i64 c, .int .i64 d, .int .i64 e, .int .i64 f]] w fun r w' => r = .returned (.bool (decide (c ≤ f))) ∧ Below w.heap.size w w' := by
  have V1 := Lib.hid fun w => rvalid_any a b c w
  rw [k1] at V1
  have V2 := Lib.hid fun w => rvalid_any d e f w
  rw [k2] at V2
  clear k1 k2
  have p1 := Lib.hid (blk_new w (.cells #[.int .i64 a, .int .i64 b, .int .i64 c, .int .i64 d, .int .i64 e, .int .i64 f] 28))
  have hA := Lib.hid (new_block (w := w) (.cells #[.int .i64 a, .int .i64 b, .int .i64 c, .int .i64 d, .int .i64 e, .int .i64 f] 28))
  go_enter Tryz.func63, Tryz.ntmps63
  go_wp2_with fail
  with_reducible refine (V1.out _).mono ?_
  rintro r w1 ⟨rfl, hb⟩
  replace p1 := Lib.hid (blk_b hb p1.out)
  replace hA := Lib.hid (Buf.then_ hA.out hb)
  clear hb
  obtain ⟨u1, u2, u3, u4, u5, u6⟩ := cells6 p1.out
  go_wp2_with fail
  with_reducible refine (V2.out _).mono ?_
  rintro r w2 ⟨rfl, hb⟩
  replace p1 := Lib.hid (blk_b hb p1.out)
  replace hA := Lib.hid (Buf.then_ hA.out hb)
  clear hb
  clear u1 u2 u3 u4 u5 u6
  obtain ⟨u1, u2, u3, u4, u5, u6⟩ := cells6 p1.out
  go_wp2_with fail
  go_ret
  exact ⟨rfl, hA.out⟩
theorem rvalidBox_any (a b c d e f : Int) (w : World) :
    Calls Tryz.prog 63 #[.agg #[.int .i64 a, .int .i64 b, .int .i64 c, .int .i64 d, .int .i64 e, .int .i64 f]] w fun r w' => r = .returned (.bool (bvB a b c d e f)) ∧ Below w.heap.size w w' := by
  have e0 : bvB a b c d e f = (pvB a b c && (pvB d e f && (decide (a ≤ d) && (decide (b ≤ e) && decide (c ≤ f))))) := by
    unfold bvB
    cases pvB a b c <;> cases pvB d e f <;> simp
  rw [e0]
  cases k1 : pvB a b c with
  | false => exact rvb_0 a b c d e f k1 w
  | true =>
    cases k2 : pvB d e f with
    | false => exact rvb_1 a b c d e f k1 k2 w
    | true =>
      rw [Bool.true_and, Bool.true_and]
      by_cases hx : a ≤ d
      · rw [decide_eq_true hx, Bool.true_and]
        by_cases hy : b ≤ e
        · rw [decide_eq_true hy, Bool.true_and]
          exact rvb_4 a b c d e f k1 k2 hx hy w
        · rw [decide_eq_false hy, Bool.false_and]
          exact rvb_3 a b c d e f k1 k2 hx (by omega) w
      · rw [decide_eq_false hx, Bool.false_and]
        exact rvb_2 a b c d e f k1 k2 (by omega) w
set_option maxRecDepth 100000 in
theorem rnear_any (lo hi x : Int) (w : World) (l0 : -1048576 ≤ lo) (l1 : lo ≤ 1048576) (h0 : -1048576 ≤ hi) (h1 : hi ≤ 1048576) (x0 : -1048576 ≤ x) (x1 : x ≤ 1048576) (m : Int) (hm : m = max (lo - x) (max (x - hi) 0)) : Calls Tryz.prog 97 #[.int .i64 lo, .int .i64 hi, .int .i64 x] w fun e w' => e = .returned (.int .i64 m) ∧ w' = w := by
  have e : max 0 (max (lo - x) (x - hi)) = m := by omega
  replace e := Lib.hid e
  clear hm
  go_enter Tryz.func97, Tryz.ntmps97
  go_wp2
  go_ret
  exact ⟨congrArg (fun z => Ending.returned (Value.int .i64 z)) e.out, rfl⟩
set_option maxRecDepth 100000 in
theorem rfar_any (lo hi x : Int) (w : World) (l0 : -1048576 ≤ lo) (l1 : lo ≤ 1048576) (h0 : -1048576 ≤ hi) (h1 : hi ≤ 1048576) (x0 : -1048576 ≤ x) (x1 : x ≤ 1048576) (m : Int) (hm : m = max (hi - x) (x - lo)) : Calls Tryz.prog 98 #[.int .i64 lo, .int .i64 hi, .int .i64 x] w fun e w' => e = .returned (.int .i64 m) ∧ w' = w := by
  have e : max (x - lo) (hi - x) = m := by omega
  replace e := Lib.hid e
  clear hm
  go_enter Tryz.func98, Tryz.ntmps98
  go_wp2
  go_ret
  exact ⟨congrArg (fun z => Ending.returned (Value.int .i64 z)) e.out, rfl⟩
set_option maxHeartbeats 8000000 in
set_option maxRecDepth 100000 in
theorem rnear_1 (a b c d e f x y z : Int) (k1 : bvB a b c d e f = false) (w : World) :
    Calls Tryz.prog 83 #[.agg #[.int .i64 a, .int .i64 b, .int .i64 c, .int .i64 d, .int .i64 e, .int .i64 f], .agg #[.int .i64 x, .int .i64 y, .int .i64 z]] w fun r w' => r = .returned (.int .i64 0) ∧ Below w.heap.size w w' := by
  have V1 := Lib.hid fun w => rvalidBox_any a b c d e f w
  rw [k1] at V1
  clear k1
  have p1 := Lib.hid (blk_alloc (blk_new w (.cells #[.int .i64 a, .int .i64 b, .int .i64 c, .int .i64 d, .int .i64 e, .int .i64 f] 28)) (.cells #[.int .i64 x, .int .i64 y, .int .i64 z] 26))
  have p2 := Lib.hid (blk_new1 w (.cells #[.int .i64 a, .int .i64 b, .int .i64 c, .int .i64 d, .int .i64 e, .int .i64 f] 28) (.cells #[.int .i64 x, .int .i64 y, .int .i64 z] 26))
  have hA := Lib.hid (Buf.then_ (new_block (w := w) (.cells #[.int .i64 a, .int .i64 b, .int .i64 c, .int .i64 d, .int .i64 e, .int .i64 f] 28)) (new_block (.cells #[.int .i64 x, .int .i64 y, .int .i64 z] 26)))
  go_enter Tryz.func83, Tryz.ntmps83
  go_wp2_with fail
  with_reducible refine (V1.out _).mono ?_
  rintro r w1 ⟨rfl, hb⟩
  replace p1 := Lib.hid (blk_b hb p1.out)
  replace p2 := Lib.hid (blk_b hb p2.out)
  replace hA := Lib.hid (Buf.then_ hA.out hb)
  clear hb
  go_wp2_with fail
  go_ret
  exact ⟨rfl, hA.out⟩
set_option maxHeartbeats 8000000 in
set_option maxRecDepth 100000 in
theorem rnear_2 (a b c d e f x y z : Int) (k1 : bvB a b c d e f = true) (k2 : pvB x y z = false) (w : World) :
    Calls Tryz.prog 83 #[.agg #[.int .i64 a, .int .i64 b, .int .i64 c, .int .i64 d, .int .i64 e, .int .i64 f], .agg #[.int .i64 x, .int .i64 y, .int .i64 z]] w fun r w' => r = .returned (.int .i64 0) ∧ Below w.heap.size w w' := by
  have V1 := Lib.hid fun w => rvalidBox_any a b c d e f w
  rw [k1] at V1
  have V2 := Lib.hid fun w => rvalid_any x y z w
  rw [k2] at V2
  clear k1 k2
  have p1 := Lib.hid (blk_alloc (blk_new w (.cells #[.int .i64 a, .int .i64 b, .int .i64 c, .int .i64 d, .int .i64 e, .int .i64 f] 28)) (.cells #[.int .i64 x, .int .i64 y, .int .i64 z] 26))
  have p2 := Lib.hid (blk_new1 w (.cells #[.int .i64 a, .int .i64 b, .int .i64 c, .int .i64 d, .int .i64 e, .int .i64 f] 28) (.cells #[.int .i64 x, .int .i64 y, .int .i64 z] 26))
  have hA := Lib.hid (Buf.then_ (new_block (w := w) (.cells #[.int .i64 a, .int .i64 b, .int .i64 c, .int .i64 d, .int .i64 e, .int .i64 f] 28)) (new_block (.cells #[.int .i64 x, .int .i64 y, .int .i64 z] 26)))
  go_enter Tryz.func83, Tryz.ntmps83
  go_wp2_with fail
  with_reducible refine (V1.out _).mono ?_
  rintro r w1 ⟨rfl, hb⟩
  replace p1 := Lib.hid (blk_b hb p1.out)
  replace p2 := Lib.hid (blk_b hb p2.out)
  replace hA := Lib.hid (Buf.then_ hA.out hb)
  clear hb
  obtain ⟨q1, q2, q3, _, _, _⟩ := cells3 p2.out
  go_wp2_with fail
  with_reducible refine (V2.out _).mono ?_
  rintro r w2 ⟨rfl, hb⟩
  replace p1 := Lib.hid (blk_b hb p1.out)
  replace p2 := Lib.hid (blk_b hb p2.out)
  replace hA := Lib.hid (Buf.then_ hA.out hb)
  clear hb
  clear q1 q2 q3
  go_wp2_with fail
  go_ret
  exact ⟨rfl, hA.out⟩
set_option maxHeartbeats 8000000 in
set_option maxRecDepth 100000 in
theorem rnear_3 (a b c d e f x y z : Int) (k1 : bvB a b c d e f = true) (k2 : pvB x y z = true) (w : World) :
    Calls Tryz.prog 83 #[.agg #[.int .i64 a, .int .i64 b, .int .i64 c, .int .i64 d, .int .i64 e, .int .i64 f], .agg #[.int .i64 x, .int .i64 y, .int .i64 z]] w fun r w' => r = .returned (.int .i64 (near3 a b c d e f x y z)) ∧ Below w.heap.size w w' := by
  have V1 := Lib.hid fun w => rvalidBox_any a b c d e f w
  rw [k1] at V1
  have V2 := Lib.hid fun w => rvalid_any x y z w
  rw [k2] at V2
  obtain ⟨⟨ax0, ax1, ay0, ay1, az0, az1⟩, ⟨dx0, dx1, dy0, dy1, dz0, dz1⟩, hx, hy, hz⟩ := bvB_yes k1
  obtain ⟨px0, px1, py0, py1, pz0, pz1⟩ := pvB_yes k2
  unfold near3
  obtain ⟨m0, hm0⟩ : ∃ m, m = max (a - x) (max (x - d) 0) := ⟨_, rfl⟩
  obtain ⟨m1, hm1⟩ : ∃ m, m = max (b - y) (max (y - e) 0) := ⟨_, rfl⟩
  obtain ⟨m2, hm2⟩ : ∃ m, m = max (c - z) (max (z - f) 0) := ⟨_, rfl⟩
  rw [← hm0, ← hm1, ← hm2]
  have N0 := Lib.hid fun w => rnear_any a d x w (by omega) (by omega) (by omega) (by omega) (by omega) (by omega) m0 hm0
  have S0 := Lib.hid fun w => rsq_any m0 w (by omega) (by omega)
  obtain ⟨s0, t0⟩ := sq_bd (show -2097152 ≤ m0 by omega) (show m0 ≤ 2097152 by omega)
  have N1 := Lib.hid fun w => rnear_any b e y w (by omega) (by omega) (by omega) (by omega) (by omega) (by omega) m1 hm1
  have S1 := Lib.hid fun w => rsq_any m1 w (by omega) (by omega)
  obtain ⟨s1, t1⟩ := sq_bd (show -2097152 ≤ m1 by omega) (show m1 ≤ 2097152 by omega)
  have N2 := Lib.hid fun w => rnear_any c f z w (by omega) (by omega) (by omega) (by omega) (by omega) (by omega) m2 hm2
  have S2 := Lib.hid fun w => rsq_any m2 w (by omega) (by omega)
  obtain ⟨s2, t2⟩ := sq_bd (show -2097152 ≤ m2 by omega) (show m2 ≤ 2097152 by omega)
  clear hm0 hm1 hm2
  clear k1 k2
  have p1 := Lib.hid (blk_alloc (blk_new w (.cells #[.int .i64 a, .int .i64 b, .int .i64 c, .int .i64 d, .int .i64 e, .int .i64 f] 28)) (.cells #[.int .i64 x, .int .i64 y, .int .i64 z] 26))
  have p2 := Lib.hid (blk_new1 w (.cells #[.int .i64 a, .int .i64 b, .int .i64 c, .int .i64 d, .int .i64 e, .int .i64 f] 28) (.cells #[.int .i64 x, .int .i64 y, .int .i64 z] 26))
  have hA := Lib.hid (Buf.then_ (new_block (w := w) (.cells #[.int .i64 a, .int .i64 b, .int .i64 c, .int .i64 d, .int .i64 e, .int .i64 f] 28)) (new_block (.cells #[.int .i64 x, .int .i64 y, .int .i64 z] 26)))
  go_enter Tryz.func83, Tryz.ntmps83
  go_wp2_with fail
  with_reducible refine (V1.out _).mono ?_
  rintro r w1 ⟨rfl, hb⟩
  replace p1 := Lib.hid (blk_b hb p1.out)
  replace p2 := Lib.hid (blk_b hb p2.out)
  replace hA := Lib.hid (Buf.then_ hA.out hb)
  clear hb
  obtain ⟨q1, q2, q3, _, _, _⟩ := cells3 p2.out
  go_wp2_with fail
  with_reducible refine (V2.out _).mono ?_
  rintro r w2 ⟨rfl, hb⟩
  replace p1 := Lib.hid (blk_b hb p1.out)
  replace p2 := Lib.hid (blk_b hb p2.out)
  replace hA := Lib.hid (Buf.then_ hA.out hb)
  clear hb
  clear q1 q2 q3
  obtain ⟨u1, u2, u3, u4, u5, u6⟩ := cells6 p1.out
  obtain ⟨q1, q2, q3, _, _, _⟩ := cells3 p2.out
  go_wp2_with fail
  go_quiet (first | (go_at_call 97; with_reducible exact Calls.quiet_of_same (N0.out _)) | (go_at_call 97; with_reducible exact Calls.quiet_of_same (N1.out _)) | (go_at_call 97; with_reducible exact Calls.quiet_of_same (N2.out _)) | (go_at_call 96; with_reducible exact Calls.quiet_of_same (S0.out _)) | (go_at_call 96; with_reducible exact Calls.quiet_of_same (S1.out _)) | (go_at_call 96; with_reducible exact Calls.quiet_of_same (S2.out _)))
  go_wp2_with fail
  go_ret
  exact ⟨rfl, Buf.below_drewN hA.out _⟩
set_option maxHeartbeats 8000000 in
set_option maxRecDepth 100000 in
theorem rfar_1 (a b c d e f x y z : Int) (k1 : bvB a b c d e f = false) (w : World) :
    Calls Tryz.prog 84 #[.agg #[.int .i64 a, .int .i64 b, .int .i64 c, .int .i64 d, .int .i64 e, .int .i64 f], .agg #[.int .i64 x, .int .i64 y, .int .i64 z]] w fun r w' => r = .returned (.int .i64 0) ∧ Below w.heap.size w w' := by
  have V1 := Lib.hid fun w => rvalidBox_any a b c d e f w
  rw [k1] at V1
  clear k1
  have p1 := Lib.hid (blk_alloc (blk_new w (.cells #[.int .i64 a, .int .i64 b, .int .i64 c, .int .i64 d, .int .i64 e, .int .i64 f] 28)) (.cells #[.int .i64 x, .int .i64 y, .int .i64 z] 26))
  have p2 := Lib.hid (blk_new1 w (.cells #[.int .i64 a, .int .i64 b, .int .i64 c, .int .i64 d, .int .i64 e, .int .i64 f] 28) (.cells #[.int .i64 x, .int .i64 y, .int .i64 z] 26))
  have hA := Lib.hid (Buf.then_ (new_block (w := w) (.cells #[.int .i64 a, .int .i64 b, .int .i64 c, .int .i64 d, .int .i64 e, .int .i64 f] 28)) (new_block (.cells #[.int .i64 x, .int .i64 y, .int .i64 z] 26)))
  go_enter Tryz.func84, Tryz.ntmps84
  go_wp2_with fail
  with_reducible refine (V1.out _).mono ?_
  rintro r w1 ⟨rfl, hb⟩
  replace p1 := Lib.hid (blk_b hb p1.out)
  replace p2 := Lib.hid (blk_b hb p2.out)
  replace hA := Lib.hid (Buf.then_ hA.out hb)
  clear hb
  go_wp2_with fail
  go_ret
  exact ⟨rfl, hA.out⟩
set_option maxHeartbeats 8000000 in
set_option maxRecDepth 100000 in
theorem rfar_2 (a b c d e f x y z : Int) (k1 : bvB a b c d e f = true) (k2 : pvB x y z = false) (w : World) :
    Calls Tryz.prog 84 #[.agg #[.int .i64 a, .int .i64 b, .int .i64 c, .int .i64 d, .int .i64 e, .int .i64 f], .agg #[.int .i64 x, .int .i64 y, .int .i64 z]] w fun r w' => r = .returned (.int .i64 0) ∧ Below w.heap.size w w' := by
  have V1 := Lib.hid fun w => rvalidBox_any a b c d e f w
  rw [k1] at V1
  have V2 := Lib.hid fun w => rvalid_any x y z w
  rw [k2] at V2
  clear k1 k2
  have p1 := Lib.hid (blk_alloc (blk_new w (.cells #[.int .i64 a, .int .i64 b, .int .i64 c, .int .i64 d, .int .i64 e, .int .i64 f] 28)) (.cells #[.int .i64 x, .int .i64 y, .int .i64 z] 26))
  have p2 := Lib.hid (blk_new1 w (.cells #[.int .i64 a, .int .i64 b, .int .i64 c, .int .i64 d, .int .i64 e, .int .i64 f] 28) (.cells #[.int .i64 x, .int .i64 y, .int .i64 z] 26))
  have hA := Lib.hid (Buf.then_ (new_block (w := w) (.cells #[.int .i64 a, .int .i64 b, .int .i64 c, .int .i64 d, .int .i64 e, .int .i64 f] 28)) (new_block (.cells #[.int .i64 x, .int .i64 y, .int .i64 z] 26)))
  go_enter Tryz.func84, Tryz.ntmps84
  go_wp2_with fail
  with_reducible refine (V1.out _).mono ?_
  rintro r w1 ⟨rfl, hb⟩
  replace p1 := Lib.hid (blk_b hb p1.out)
  replace p2 := Lib.hid (blk_b hb p2.out)
  replace hA := Lib.hid (Buf.then_ hA.out hb)
  clear hb
  obtain ⟨q1, q2, q3, _, _, _⟩ := cells3 p2.out
  go_wp2_with fail
  with_reducible refine (V2.out _).mono ?_
  rintro r w2 ⟨rfl, hb⟩
  replace p1 := Lib.hid (blk_b hb p1.out)
  replace p2 := Lib.hid (blk_b hb p2.out)
  replace hA := Lib.hid (Buf.then_ hA.out hb)
  clear hb
  clear q1 q2 q3
  go_wp2_with fail
  go_ret
  exact ⟨rfl, hA.out⟩
set_option maxHeartbeats 8000000 in
set_option maxRecDepth 100000 in
theorem rfar_3 (a b c d e f x y z : Int) (k1 : bvB a b c d e f = true) (k2 : pvB x y z = true) (w : World) :
    Calls Tryz.prog 84 #[.agg #[.int .i64 a, .int .i64 b, .int .i64 c, .int .i64 d, .int .i64 e, .int .i64 f], .agg #[.int .i64 x, .int .i64 y, .int .i64 z]] w fun r w' => r = .returned (.int .i64 (far3 a b c d e f x y z)) ∧ Below w.heap.size w w' := by
  have V1 := Lib.hid fun w => rvalidBox_any a b c d e f w
  rw [k1] at V1
  have V2 := Lib.hid fun w => rvalid_any x y z w
  rw [k2] at V2
  obtain ⟨⟨ax0, ax1, ay0, ay1, az0, az1⟩, ⟨dx0, dx1, dy0, dy1, dz0, dz1⟩, hx, hy, hz⟩ := bvB_yes k1
  obtain ⟨px0, px1, py0, py1, pz0, pz1⟩ := pvB_yes k2
  unfold far3
  obtain ⟨m0, hm0⟩ : ∃ m, m = max (d - x) (x - a) := ⟨_, rfl⟩
  obtain ⟨m1, hm1⟩ : ∃ m, m = max (e - y) (y - b) := ⟨_, rfl⟩
  obtain ⟨m2, hm2⟩ : ∃ m, m = max (f - z) (z - c) := ⟨_, rfl⟩
  rw [← hm0, ← hm1, ← hm2]
  have N0 := Lib.hid fun w => rfar_any a d x w (by omega) (by omega) (by omega) (by omega) (by omega) (by omega) m0 hm0
  have S0 := Lib.hid fun w => rsq_any m0 w (by omega) (by omega)
  obtain ⟨s0, t0⟩ := sq_bd (show -2097152 ≤ m0 by omega) (show m0 ≤ 2097152 by omega)
  have N1 := Lib.hid fun w => rfar_any b e y w (by omega) (by omega) (by omega) (by omega) (by omega) (by omega) m1 hm1
  have S1 := Lib.hid fun w => rsq_any m1 w (by omega) (by omega)
  obtain ⟨s1, t1⟩ := sq_bd (show -2097152 ≤ m1 by omega) (show m1 ≤ 2097152 by omega)
  have N2 := Lib.hid fun w => rfar_any c f z w (by omega) (by omega) (by omega) (by omega) (by omega) (by omega) m2 hm2
  have S2 := Lib.hid fun w => rsq_any m2 w (by omega) (by omega)
  obtain ⟨s2, t2⟩ := sq_bd (show -2097152 ≤ m2 by omega) (show m2 ≤ 2097152 by omega)
  clear hm0 hm1 hm2
  clear k1 k2
  have p1 := Lib.hid (blk_alloc (blk_new w (.cells #[.int .i64 a, .int .i64 b, .int .i64 c, .int .i64 d, .int .i64 e, .int .i64 f] 28)) (.cells #[.int .i64 x, .int .i64 y, .int .i64 z] 26))
  have p2 := Lib.hid (blk_new1 w (.cells #[.int .i64 a, .int .i64 b, .int .i64 c, .int .i64 d, .int .i64 e, .int .i64 f] 28) (.cells #[.int .i64 x, .int .i64 y, .int .i64 z] 26))
  have hA := Lib.hid (Buf.then_ (new_block (w := w) (.cells #[.int .i64 a, .int .i64 b, .int .i64 c, .int .i64 d, .int .i64 e, .int .i64 f] 28)) (new_block (.cells #[.int .i64 x, .int .i64 y, .int .i64 z] 26)))
  go_enter Tryz.func84, Tryz.ntmps84
  go_wp2_with fail
  with_reducible refine (V1.out _).mono ?_
  rintro r w1 ⟨rfl, hb⟩
  replace p1 := Lib.hid (blk_b hb p1.out)
  replace p2 := Lib.hid (blk_b hb p2.out)
  replace hA := Lib.hid (Buf.then_ hA.out hb)
  clear hb
  obtain ⟨q1, q2, q3, _, _, _⟩ := cells3 p2.out
  go_wp2_with fail
  with_reducible refine (V2.out _).mono ?_
  rintro r w2 ⟨rfl, hb⟩
  replace p1 := Lib.hid (blk_b hb p1.out)
  replace p2 := Lib.hid (blk_b hb p2.out)
  replace hA := Lib.hid (Buf.then_ hA.out hb)
  clear hb
  clear q1 q2 q3
  obtain ⟨u1, u2, u3, u4, u5, u6⟩ := cells6 p1.out
  obtain ⟨q1, q2, q3, _, _, _⟩ := cells3 p2.out
  go_wp2_with fail
  go_quiet (first | (go_at_call 98; with_reducible exact Calls.quiet_of_same (N0.out _)) | (go_at_call 98; with_reducible exact Calls.quiet_of_same (N1.out _)) | (go_at_call 98; with_reducible exact Calls.quiet_of_same (N2.out _)) | (go_at_call 96; with_reducible exact Calls.quiet_of_same (S0.out _)) | (go_at_call 96; with_reducible exact Calls.quiet_of_same (S1.out _)) | (go_at_call 96; with_reducible exact Calls.quiet_of_same (S2.out _)))
  go_wp2_with fail
  go_ret
  exact ⟨rfl, Buf.below_drewN hA.out _⟩
end Geo
end Go.Proofs.YtmmikihkfpkapaaGreat

/- Package geometry at any boxes: Center, Split, Hull, Within, Contains. -/
set_option linter.unusedVariables false
set_option linter.unusedSimpArgs false
namespace Go.Proofs.YtmmikihkfpkapaaGreat
open Go.RowKit
namespace Geo
set_option maxHeartbeats 8000000 in
set_option maxRecDepth 100000 in
theorem center_no (a b c d e f : Int) (k1 : bvB a b c d e f = false) (w : World) :
    Calls Tryz.prog 43 #[.agg #[.int .i64 a, .int .i64 b, .int .i64 c, .int .i64 d, .int .i64 e, .int .i64 f]] w fun r w' => r = .returned (.agg #[.int .i64 0, .int .i64 0, .int .i64 0]) ∧ Below w.heap.size w w' := by
  have V1 := Lib.hid fun w => validBox_any a b c d e f w
  rw [k1] at V1
  clear k1
  have p1 := Lib.hid (blk_alloc (blk_new w (.cells #[.int .i64 a, .int .i64 b, .int .i64 c, .int .i64 d, .int .i64 e, .int .i64 f] 28)) (.cells #[.int .i64 0, .int .i64 0, .int .i64 0] 26))
  have p2 := Lib.hid (blk_new1 w (.cells #[.int .i64 a, .int .i64 b, .int .i64 c, .int .i64 d, .int .i64 e, .int .i64 f] 28) (.cells #[.int .i64 0, .int .i64 0, .int .i64 0] 26))
  have hA := Lib.hid (Buf.then_ (new_block (w := w) (.cells #[.int .i64 a, .int .i64 b, .int .i64 c, .int .i64 d, .int .i64 e, .int .i64 f] 28)) (new_block (.cells #[.int .i64 0, .int .i64 0, .int .i64 0] 26)))
  go_enter Tryz.func43, Tryz.ntmps43
  go_wp2_with fail
  with_reducible refine (V1.out _).mono ?_
  rintro r w1 ⟨rfl, hb⟩
  replace p2 := Lib.hid (blk_b hb p2.out)
  replace hA := Lib.hid (Buf.then_ hA.out hb)
  clear hb
  obtain ⟨e1, e2, e3, e4, e5, e6⟩ := cells3 p2.out
  go_wp2_with fail
  exact bodyPost_ret (results_cell_row rfl _ _ (w.heap.size + 1) _ _ _ _ rfl (st3 p2.out (.int .i64 0) (.int .i64 0) (.int .i64 0)) rfl (by rfl) rfl) rfl ⟨rfl, st3_below hA.out (by omega) (.int .i64 0) (.int .i64 0) (.int .i64 0)⟩
set_option maxHeartbeats 8000000 in
set_option maxRecDepth 100000 in
theorem hull_no_1 (a b c d e f a' b' c' d' e' f' : Int) (k1 : bvB a b c d e f = false) (w : World) :
    Calls Tryz.prog 17 #[.agg #[.int .i64 a, .int .i64 b, .int .i64 c, .int .i64 d, .int .i64 e, .int .i64 f], .agg #[.int .i64 a', .int .i64 b', .int .i64 c', .int .i64 d', .int .i64 e', .int .i64 f']] w fun r w' => r = .returned (.agg #[.int .i64 0, .int .i64 0, .int .i64 0, .int .i64 0, .int .i64 0, .int .i64 0]) ∧ Below w.heap.size w w' := by
  have V1 := Lib.hid fun w => validBox_any a b c d e f w
  rw [k1] at V1
  clear k1
  have p1 := Lib.hid (blk_alloc (blk_alloc (blk_new w (.cells #[.int .i64 a, .int .i64 b, .int .i64 c, .int .i64 d, .int .i64 e, .int .i64 f] 28)) (.cells #[.int .i64 a', .int .i64 b', .int .i64 c', .int .i64 d', .int .i64 e', .int .i64 f'] 28)) (.cells #[.int .i64 0, .int .i64 0, .int .i64 0, .int .i64 0, .int .i64 0, .int .i64 0] 28))
  have p2 := Lib.hid (blk_alloc (blk_new1 w (.cells #[.int .i64 a, .int .i64 b, .int .i64 c, .int .i64 d, .int .i64 e, .int .i64 f] 28) (.cells #[.int .i64 a', .int .i64 b', .int .i64 c', .int .i64 d', .int .i64 e', .int .i64 f'] 28)) (.cells #[.int .i64 0, .int .i64 0, .int .i64 0, .int .i64 0, .int .i64 0, .int .i64 0] 28))
  have p3 := Lib.hid (blk_new2 w (.cells #[.int .i64 a, .int .i64 b, .int .i64 c, .int .i64 d, .int .i64 e, .int .i64 f] 28) (.cells #[.int .i64 a', .int .i64 b', .int .i64 c', .int .i64 d', .int .i64 e', .int .i64 f'] 28) (.cells #[.int .i64 0, .int .i64 0, .int .i64 0, .int .i64 0, .int .i64 0, .int .i64 0] 28))
  have hA := Lib.hid (Buf.then_ (Buf.then_ (new_block (w := w) (.cells #[.int .i64 a, .int .i64 b, .int .i64 c, .int .i64 d, .int .i64 e, .int .i64 f] 28)) (new_block (.cells #[.int .i64 a', .int .i64 b', .int .i64 c', .int .i64 d', .int .i64 e', .int .i64 f'] 28))) (new_block (.cells #[.int .i64 0, .int .i64 0, .int .i64 0, .int .i64 0, .int .i64 0, .int .i64 0] 28)))
  go_enter Tryz.func17, Tryz.ntmps17
  go_wp2_with fail
  with_reducible refine (V1.out _).mono ?_
  rintro r w1 ⟨rfl, hb⟩
  replace p2 := Lib.hid (blk_b hb p2.out)
  replace p3 := Lib.hid (blk_b hb p3.out)
  replace hA := Lib.hid (Buf.then_ hA.out hb)
  clear hb
  obtain ⟨e1, e2, e3, e4, e5, e6, e7, e8, e9, e10, e11, e12⟩ := cells6f p3.out
  go_wp2_with fail
  exact bodyPost_ret (results_cell_row rfl _ _ (w.heap.size + 1 + 1) _ _ _ _ rfl (st6 p3.out (.int .i64 0) (.int .i64 0) (.int .i64 0) (.int .i64 0) (.int .i64 0) (.int .i64 0)) rfl (by rfl) rfl) rfl ⟨rfl, st6_below hA.out (by omega) (.int .i64 0) (.int .i64 0) (.int .i64 0) (.int .i64 0) (.int .i64 0) (.int .i64 0)⟩
set_option maxHeartbeats 8000000 in
set_option maxRecDepth 100000 in
theorem hull_no_2 (a b c d e f a' b' c' d' e' f' : Int) (k1 : bvB a b c d e f = true) (k2 : bvB a' b' c' d' e' f' = false) (w : World) :
    Calls Tryz.prog 17 #[.agg #[.int .i64 a, .int .i64 b, .int .i64 c, .int .i64 d, .int .i64 e, .int .i64 f], .agg #[.int .i64 a', .int .i64 b', .int .i64 c', .int .i64 d', .int .i64 e', .int .i64 f']] w fun r w' => r = .returned (.agg #[.int .i64 0, .int .i64 0, .int .i64 0, .int .i64 0, .int .i64 0, .int .i64 0]) ∧ Below w.heap.size w w' := by
  have V1 := Lib.hid fun w => validBox_any a b c d e f w
  rw [k1] at V1
  have V2 := Lib.hid fun w => validBox_any a' b' c' d' e' f' w
  rw [k2] at V2
  clear k1 k2
  have p1 := Lib.hid (blk_alloc (blk_alloc (blk_new w (.cells #[.int .i64 a, .int .i64 b, .int .i64 c, .int .i64 d, .int .i64 e, .int .i64 f] 28)) (.cells #[.int .i64 a', .int .i64 b', .int .i64 c', .int .i64 d', .int .i64 e', .int .i64 f'] 28)) (.cells #[.int .i64 0, .int .i64 0, .int .i64 0, .int .i64 0, .int .i64 0, .int .i64 0] 28))
  have p2 := Lib.hid (blk_alloc (blk_new1 w (.cells #[.int .i64 a, .int .i64 b, .int .i64 c, .int .i64 d, .int .i64 e, .int .i64 f] 28) (.cells #[.int .i64 a', .int .i64 b', .int .i64 c', .int .i64 d', .int .i64 e', .int .i64 f'] 28)) (.cells #[.int .i64 0, .int .i64 0, .int .i64 0, .int .i64 0, .int .i64 0, .int .i64 0] 28))
  have p3 := Lib.hid (blk_new2 w (.cells #[.int .i64 a, .int .i64 b, .int .i64 c, .int .i64 d, .int .i64 e, .int .i64 f] 28) (.cells #[.int .i64 a', .int .i64 b', .int .i64 c', .int .i64 d', .int .i64 e', .int .i64 f'] 28) (.cells #[.int .i64 0, .int .i64 0, .int .i64 0, .int .i64 0, .int .i64 0, .int .i64 0] 28))
  have hA := Lib.hid (Buf.then_ (Buf.then_ (new_block (w := w) (.cells #[.int .i64 a, .int .i64 b, .int .i64 c, .int .i64 d, .int .i64 e, .int .i64 f] 28)) (new_block (.cells #[.int .i64 a', .int .i64 b', .int .i64 c', .int .i64 d', .int .i64 e', .int .i64 f'] 28))) (new_block (.cells #[.int .i64 0, .int .i64 0, .int .i64 0, .int .i64 0, .int .i64 0, .int .i64 0] 28)))
  go_enter Tryz.func17, Tryz.ntmps17
  go_wp2_with fail
  with_reducible refine (V1.out _).mono ?_
  rintro r w1 ⟨rfl, hb⟩
  replace p2 := Lib.hid (blk_b hb p2.out)
  replace p3 := Lib.hid (blk_b hb p3.out)
  replace hA := Lib.hid (Buf.then_ hA.out hb)
  clear hb
  obtain ⟨q1, q2, q3, q4, q5, q6⟩ := cells6 p2.out
  go_wp2_with fail
  with_reducible refine (V2.out _).mono ?_
  rintro r w2 ⟨rfl, hb⟩
  replace p3 := Lib.hid (blk_b hb p3.out)
  replace hA := Lib.hid (Buf.then_ hA.out hb)
  clear hb
  clear q1 q2 q3 q4 q5 q6
  obtain ⟨e1, e2, e3, e4, e5, e6, e7, e8, e9, e10, e11, e12⟩ := cells6f p3.out
  go_wp2_with fail
  exact bodyPost_ret (results_cell_row rfl _ _ (w.heap.size + 1 + 1) _ _ _ _ rfl (st6 p3.out (.int .i64 0) (.int .i64 0) (.int .i64 0) (.int .i64 0) (.int .i64 0) (.int .i64 0)) rfl (by rfl) rfl) rfl ⟨rfl, st6_below hA.out (by omega) (.int .i64 0) (.int .i64 0) (.int .i64 0) (.int .i64 0) (.int .i64 0) (.int .i64 0)⟩
set_option maxHeartbeats 8000000 in
set_option maxRecDepth 100000 in
theorem split_lt (a b c d e f : Int) (n : Int) (hn : n < 2) (P : Hid (∀ w, Calls Tryz.prog 62 #[.agg #[.int .i64 a, .int .i64 b, .int .i64 c, .int .i64 d, .int .i64 e, .int .i64 f]] w fun r w' => r = .returned (.int .i64 n) ∧ Below w.heap.size w w')) (w : World) :
    Calls Tryz.prog 44 #[.agg #[.int .i64 a, .int .i64 b, .int .i64 c, .int .i64 d, .int .i64 e, .int .i64 f]] w fun r w' => r = .returned (.tuple #[.agg #[.int .i64 0, .int .i64 0, .int .i64 0, .int .i64 0, .int .i64 0, .int .i64 0], .agg #[.int .i64 0, .int .i64 0, .int .i64 0, .int .i64 0, .int .i64 0, .int .i64 0], .bool false]) ∧ Below w.heap.size w w' := by
  have p1 := Lib.hid (blk_alloc (blk_alloc (blk_new w (.cells #[.int .i64 a, .int .i64 b, .int .i64 c, .int .i64 d, .int .i64 e, .int .i64 f] 28)) (.cells #[.int .i64 0, .int .i64 0, .int .i64 0, .int .i64 0, .int .i64 0, .int .i64 0] 28)) (.cells #[.int .i64 0, .int .i64 0, .int .i64 0, .int .i64 0, .int .i64 0, .int .i64 0] 28))
  have p2 := Lib.hid (blk_alloc (blk_new1 w (.cells #[.int .i64 a, .int .i64 b, .int .i64 c, .int .i64 d, .int .i64 e, .int .i64 f] 28) (.cells #[.int .i64 0, .int .i64 0, .int .i64 0, .int .i64 0, .int .i64 0, .int .i64 0] 28)) (.cells #[.int .i64 0, .int .i64 0, .int .i64 0, .int .i64 0, .int .i64 0, .int .i64 0] 28))
  have p3 := Lib.hid (blk_new2 w (.cells #[.int .i64 a, .int .i64 b, .int .i64 c, .int .i64 d, .int .i64 e, .int .i64 f] 28) (.cells #[.int .i64 0, .int .i64 0, .int .i64 0, .int .i64 0, .int .i64 0, .int .i64 0] 28) (.cells #[.int .i64 0, .int .i64 0, .int .i64 0, .int .i64 0, .int .i64 0, .int .i64 0] 28))
  have hA := Lib.hid (Buf.then_ (Buf.then_ (new_block (w := w) (.cells #[.int .i64 a, .int .i64 b, .int .i64 c, .int .i64 d, .int .i64 e, .int .i64 f] 28)) (new_block (.cells #[.int .i64 0, .int .i64 0, .int .i64 0, .int .i64 0, .int .i64 0, .int .i64 0] 28))) (new_block (.cells #[.int .i64 0, .int .i64 0, .int .i64 0, .int .i64 0, .int .i64 0, .int .i64 0] 28)))
  go_enter Tryz.func44, Tryz.ntmps44
  go_wp2_with fail
  with_reducible refine (P.out _).mono ?_
  rintro r w1 ⟨rfl, hb⟩
  replace p2 := Lib.hid (blk_b hb p2.out)
  replace p3 := Lib.hid (blk_b hb p3.out)
  replace hA := Lib.hid (Buf.then_ hA.out hb)
  clear hb
  obtain ⟨e1, e2, e3, e4, e5, e6, e7, e8, e9, e10, e11, e12⟩ := cells6f p2.out
  obtain ⟨h1, h2, h3, h4, h5, h6, h7, h8, h9, h10, h11, h12⟩ := cells6f p3.out
  have y1 := Lib.hid (st6 ((st6_other w1 (k := w.heap.size + 1 + 1) (g := w.heap.size + 1) (by omega) (.int .i64 0) (.int .i64 0) (.int .i64 0) (.int .i64 0) (.int .i64 0) (.int .i64 0)).trans p3.out) (.int .i64 0) (.int .i64 0) (.int .i64 0) (.int .i64 0) (.int .i64 0) (.int .i64 0))
  have y2 := Lib.hid ((st6_other _ (k := w.heap.size + 1) (g := w.heap.size + 1 + 1) (by omega) (.int .i64 0) (.int .i64 0) (.int .i64 0) (.int .i64 0) (.int .i64 0) (.int .i64 0)).trans (st6 p2.out (.int .i64 0) (.int .i64 0) (.int .i64 0) (.int .i64 0) (.int .i64 0) (.int .i64 0)))
  have y3 := Lib.hid (st6_below (st6_below hA.out (g := w.heap.size + 1) (by omega) (.int .i64 0) (.int .i64 0) (.int .i64 0) (.int .i64 0) (.int .i64 0) (.int .i64 0)) (g := w.heap.size + 1 + 1) (by omega) (.int .i64 0) (.int .i64 0) (.int .i64 0) (.int .i64 0) (.int .i64 0) (.int .i64 0))
  go_wp2
  exact bodyPost_ret (results_two_rows_tmp rfl _ _ (w.heap.size + 1) (w.heap.size + 1 + 1) _ _ _ _ _ _ _ _ rfl y2.out rfl (by rfl) rfl rfl y1.out rfl (by rfl) rfl) rfl ⟨rfl, y3.out⟩
def wiV (a b c d e f a' b' c' d' e' f' : Int) : Bool := bvB a b c d e f && (bvB a' b' c' d' e' f' && wiB a b c d e f a' b' c' d' e' f')
theorem within_all (a b c d e f a' b' c' d' e' f' : Int) (w : World) :
    Calls Tryz.prog 76 #[.agg #[.int .i64 a, .int .i64 b, .int .i64 c, .int .i64 d, .int .i64 e, .int .i64 f], .agg #[.int .i64 a', .int .i64 b', .int .i64 c', .int .i64 d', .int .i64 e', .int .i64 f']] w fun r w' => r = .returned (.bool (wiV a b c d e f a' b' c' d' e' f')) ∧ Below w.heap.size w w' := by
  unfold wiV
  cases k1 : bvB a b c d e f with
  | false => exact withinv_no1 a b c d e f a' b' c' d' e' f' k1 w
  | true =>
    cases k2 : bvB a' b' c' d' e' f' with
    | false => exact withinv_no2 a b c d e f a' b' c' d' e' f' k1 k2 w
    | true => exact within_any a b c d e f a' b' c' d' e' f' (bvB_yes k1) (bvB_yes k2) w
/-- Whether a box contains a position. -/
def coV (a b c d e f x y z : Int) : Bool := bvB a b c d e f && decide (a ≤ x ∧ x ≤ d ∧ b ≤ y ∧ y ≤ e ∧ c ≤ z ∧ z ≤ f)
theorem pt_co {a b c d e f x y z : Int} (h : bvB a b c d e f = true) (k : a ≤ x ∧ x ≤ d ∧ b ≤ y ∧ y ≤ e ∧ c ≤ z ∧ z ≤ f) : bvB x y z x y z = true := by
  obtain ⟨⟨ax0, ax1, ay0, ay1, az0, az1⟩, ⟨dx0, dx1, dy0, dy1, dz0, dz1⟩, hx, hy, hz⟩ := bvB_yes h
  exact bvB_of ⟨⟨by omega, by omega, by omega, by omega, by omega, by omega⟩, ⟨by omega, by omega, by omega, by omega, by omega, by omega⟩, by omega, by omega, by omega⟩
theorem wi_pt (a b c d e f x y z : Int) : wiV x y z x y z a b c d e f = coV a b c d e f x y z := by
  unfold wiV coV
  cases h : bvB a b c d e f with
  | false => simp
  | true =>
    have eW : wiB x y z x y z a b c d e f = decide (a ≤ x ∧ x ≤ d ∧ b ≤ y ∧ y ≤ e ∧ c ≤ z ∧ z ≤ f) := rfl
    rw [Bool.true_and, Bool.true_and, eW]
    by_cases k : a ≤ x ∧ x ≤ d ∧ b ≤ y ∧ y ≤ e ∧ c ≤ z ∧ z ≤ f
    · rw [pt_co h k, Bool.true_and]
    · rw [decide_eq_false k, Bool.and_false]
theorem wi_co (a b c d e f a' b' c' d' e' f' : Int) : wiV a b c d e f a' b' c' d' e' f' = (bvB a b c d e f && (coV a' b' c' d' e' f' a b c && coV a' b' c' d' e' f' d e f)) := by
  unfold wiV coV wiB
  cases h : bvB a b c d e f with
  | false => simp
  | true =>
    obtain ⟨⟨ax0, ax1, ay0, ay1, az0, az1⟩, ⟨dx0, dx1, dy0, dy1, dz0, dz1⟩, hx, hy, hz⟩ := bvB_yes h
    cases bvB a' b' c' d' e' f' with
    | false => simp
    | true =>
      simp only [Bool.true_and]
      rw [Bool.eq_iff_iff]
      simp only [Bool.and_eq_true, decide_eq_true_eq]
      constructor
      · intro k; omega
      · intro k; omega
end Geo
end Go.Proofs.YtmmikihkfpkapaaGreat

/- The reference of layer 24 at any boxes: Center, Contains, Within, Hull, Split. -/
set_option linter.unusedVariables false
set_option linter.unusedSimpArgs false
namespace Go.Proofs.YtmmikihkfpkapaaGreat
open Go.RowKit
namespace Geo
set_option maxHeartbeats 8000000 in
set_option maxRecDepth 100000 in
theorem rcon_0 (a b c d e f x y z : Int) (k1 : bvB a b c d e f = false) (w : World) :
    Calls Tryz.prog 67 #[.agg #[.int .i64 a, .int .i64 b, .int .i64 c, .int .i64 d, .int .i64 e, .int .i64 f], .agg #[.int .i64 x, .int .i64 y, .int .i64 z]] w fun r w' => r = .returned (.bool false) ∧ Below w.heap.size w w' := by
  have V1 := Lib.hid fun w => rvalidBox_any a b c d e f w
  rw [k1] at V1
  clear k1
  have p1 := Lib.hid (blk_alloc (blk_new w (.cells #[.int .i64 a, .int .i64 b, .int .i64 c, .int .i64 d, .int .i64 e, .int .i64 f] 28)) (.cells #[.int .i64 x, .int .i64 y, .int .i64 z] 26))
  have p2 := Lib.hid (blk_new1 w (.cells #[.int .i64 a, .int .i64 b, .int .i64 c, .int .i64 d, .int .i64 e, .int .i64 f] 28) (.cells #[.int .i64 x, .int .i64 y, .int .i64 z] 26))
  have hA := Lib.hid (Buf.then_ (new_block (w := w) (.cells #[.int .i64 a, .int .i64 b, .int .i64 c, .int .i64 d, .int .i64 e, .int .i64 f] 28)) (new_block (.cells #[.int .i64 x, .int .i64 y, .int .i64 z] 26)))
  go_enter Tryz.func67, Tryz.ntmps67
  go_wp2_with fail
  with_reducible refine (V1.out _).mono ?_
  rintro r w1 ⟨rfl, hb⟩
  replace p1 := Lib.hid (blk_b hb p1.out)
  replace p2 := Lib.hid (blk_b hb p2.out)
  replace hA := Lib.hid (Buf.then_ hA.out hb)
  clear hb
  go_wp2_with fail
  go_ret
  exact ⟨rfl, hA.out⟩
set_option maxHeartbeats 8000000 in
set_option maxRecDepth 100000 in
theorem rcon_1 (a b c d e f x y z : Int) (k1 : bvB a b c d e f = true) (n0 : x < a) (w : World) :
    Calls Tryz.prog 67 #[.agg #[.int .i64 a, .int .i64 b, .int .i64 c, .int .i64 d, .int .i64 e, .int .i64 f], .agg #[.int .i64 x, .int .i64 y, .int .i64 z]] w fun r w' => r = .returned (.bool false) ∧ Below w.heap.size w w' := by
  have V1 := Lib.hid fun w => rvalidBox_any a b c d e f w
  rw [k1] at V1
  clear k1
  have p1 := Lib.hid (blk_alloc (blk_new w (.cells #[.int .i64 a, .int .i64 b, .int .i64 c, .int .i64 d, .int .i64 e, .int .i64 f] 28)) (.cells #[.int .i64 x, .int .i64 y, .int .i64 z] 26))
  have p2 := Lib.hid (blk_new1 w (.cells #[.int .i64 a, .int .i64 b, .int .i64 c, .int .i64 d, .int .i64 e, .int .i64 f] 28) (.cells #[.int .i64 x, .int .i64 y, .int .i64 z] 26))
  have hA := Lib.hid (Buf.then_ (new_block (w := w) (.cells #[.int .i64 a, .int .i64 b, .int .i64 c, .int .i64 d, .int .i64 e, .int .i64 f] 28)) (new_block (.cells #[.int .i64 x, .int .i64 y, .int .i64 z] 26)))
  go_enter Tryz.func67, Tryz.ntmps67
  go_wp2_with fail
  with_reducible refine (V1.out _).mono ?_
  rintro r w1 ⟨rfl, hb⟩
  replace p1 := Lib.hid (blk_b hb p1.out)
  replace p2 := Lib.hid (blk_b hb p2.out)
  replace hA := Lib.hid (Buf.then_ hA.out hb)
  clear hb
  obtain ⟨u1, u2, u3, u4, u5, u6⟩ := cells6 p1.out
  obtain ⟨q1, q2, q3, _, _, _⟩ := cells3 p2.out
  go_wp2_with fail
  go_ret
  exact ⟨rfl, hA.out⟩
set_option maxHeartbeats 8000000 in
set_option maxRecDepth 100000 in
theorem rcon_2 (a b c d e f x y z : Int) (k1 : bvB a b c d e f = true) (c0 : a ≤ x) (n1 : d < x) (w : World) :
    Calls Tryz.prog 67 #[.agg #[.int .i64 a, .int .i64 b, .int .i64 c, .int .i64 d, .int .i64 e, .int .i64 f], .agg #[.int .i64 x, .int .i64 y, .int .i64 z]] w fun r w' => r = .returned (.bool false) ∧ Below w.heap.size w w' := by
  have V1 := Lib.hid fun w => rvalidBox_any a b c d e f w
  rw [k1] at V1
  clear k1
  have p1 := Lib.hid (blk_alloc (blk_new w (.cells #[.int .i64 a, .int .i64 b, .int .i64 c, .int .i64 d, .int .i64 e, .int .i64 f] 28)) (.cells #[.int .i64 x, .int .i64 y, .int .i64 z] 26))
  have p2 := Lib.hid (blk_new1 w (.cells #[.int .i64 a, .int .i64 b, .int .i64 c, .int .i64 d, .int .i64 e, .int .i64 f] 28) (.cells #[.int .i64 x, .int .i64 y, .int .i64 z] 26))
  have hA := Lib.hid (Buf.then_ (new_block (w := w) (.cells #[.int .i64 a, .int .i64 b, .int .i64 c, .int .i64 d, .int .i64 e, .int .i64 f] 28)) (new_block (.cells #[.int .i64 x, .int .i64 y, .int .i64 z] 26)))
  go_enter Tryz.func67, Tryz.ntmps67
  go_wp2_with fail
  with_reducible refine (V1.out _).mono ?_
  rintro r w1 ⟨rfl, hb⟩
  replace p1 := Lib.hid (blk_b hb p1.out)
  replace p2 := Lib.hid (blk_b hb p2.out)
  replace hA := Lib.hid (Buf.then_ hA.out hb)
  clear hb
  obtain ⟨u1, u2, u3, u4, u5, u6⟩ := cells6 p1.out
  obtain ⟨q1, q2, q3, _, _, _⟩ := cells3 p2.out
  go_wp2_with fail
  go_ret
  exact ⟨rfl, hA.out⟩
set_option maxHeartbeats 8000000 in
set_option maxRecDepth 100000 in
theorem rcon_3 (a b c d e f x y z : Int) (k1 : bvB a b c d e f = true) (c0 : a ≤ x) (c1 : x ≤ d) (n2 : y < b) (w : World) :
    Calls Tryz.prog 67 #[.agg #[.int .i64 a, .int .i64 b, .int .i64 c, .int .i64 d, .int .i64 e, .int .i64 f], .agg #[.int .i64 x, .int .i64 y, .int .i64 z]] w fun r w' => r = .returned (.bool false) ∧ Below w.heap.size w w' := by
  have V1 := Lib.hid fun w => rvalidBox_any a b c d e f w
  rw [k1] at V1
  clear k1
  have p1 := Lib.hid (blk_alloc (blk_new w (.cells #[.int .i64 a, .int .i64 b, .int .i64 c, .int .i64 d, .int .i64 e, .int .i64 f] 28)) (.cells #[.int .i64 x, .int .i64 y, .int .i64 z] 26))
  have p2 := Lib.hid (blk_new1 w (.cells #[.int .i64 a, .int .i64 b, .int .i64 c, .int .i64 d, .int .i64 e, .int .i64 f] 28) (.cells #[.int .i64 x, .int .i64 y, .int .i64 z] 26))
  have hA := Lib.hid (Buf.then_ (new_block (w := w) (.cells #[.int .i64 a, .int .i64 b, .int .i64 c, .int .i64 d, .int .i64 e, .int .i64 f] 28)) (new_block (.cells #[.int .i64 x, .int .i64 y, .int .i64 z] 26)))
  go_enter Tryz.func67, Tryz.ntmps67
  go_wp2_with fail
  with_reducible refine (V1.out _).mono ?_
  rintro r w1 ⟨rfl, hb⟩
  replace p1 := Lib.hid (blk_b hb p1.out)
  replace p2 := Lib.hid (blk_b hb p2.out)
  replace hA := Lib.hid (Buf.then_ hA.out hb)
  clear hb
  obtain ⟨u1, u2, u3, u4, u5, u6⟩ := cells6 p1.out
  obtain ⟨q1, q2, q3, _, _, _⟩ := cells3 p2.out
  go_wp2_with fail
  go_ret
  exact ⟨rfl, hA.out⟩
set_option maxHeartbeats 8000000 in
set_option maxRecDepth 100000 in
theorem rcon_4 (a b c d e f x y z : Int) (k1 : bvB a b c d e f = true) (c0 : a ≤ x) (c1 : x ≤ d) (c2 : b ≤ y) (n3 : e < y) (w : World) :
    Calls Tryz.prog 67 #[.agg #[.int .i64 a, .int .i64 b, .int .i64 c, .int .i64 d, .int .i64 e, .int .i64 f], .agg #[.int .i64 x, .int .i64 y, .int .i64 z]] w fun r w' => r = .returned (.bool false) ∧ Below w.heap.size w w' := by
  have V1 := Lib.hid fun w => rvalidBox_any a b c d e f w
  rw [k1] at V1
  clear k1
  have p1 := Lib.hid (blk_alloc (blk_new w (.cells #[.int .i64 a, .int .i64 b, .int .i64 c, .int .i64 d, .int .i64 e, .int .i64 f] 28)) (.cells #[.int .i64 x, .int .i64 y, .int .i64 z] 26))
  have p2 := Lib.hid (blk_new1 w (.cells #[.int .i64 a, .int .i64 b, .int .i64 c, .int .i64 d, .int .i64 e, .int .i64 f] 28) (.cells #[.int .i64 x, .int .i64 y, .int .i64 z] 26))
  have hA := Lib.hid (Buf.then_ (new_block (w := w) (.cells #[.int .i64 a, .int .i64 b, .int .i64 c, .int .i64 d, .int .i64 e, .int .i64 f] 28)) (new_block (.cells #[.int .i64 x, .int .i64 y, .int .i64 z] 26)))
  go_enter Tryz.func67, Tryz.ntmps67
  go_wp2_with fail
  with_reducible refine (V1.out _).mono ?_
  rintro r w1 ⟨rfl, hb⟩
  replace p1 := Lib.hid (blk_b hb p1.out)
  replace p2 := Lib.hid (blk_b hb p2.out)
  replace hA := Lib.hid (Buf.then_ hA.out hb)
  clear hb
  obtain ⟨u1, u2, u3, u4, u5, u6⟩ := cells6 p1.out
  obtain ⟨q1, q2, q3, _, _, _⟩ := cells3 p2.out
  go_wp2_with fail
  go_ret
  exact ⟨rfl, hA.out⟩
set_option maxHeartbeats 8000000 in
set_option maxRecDepth 100000 in
theorem rcon_5 (a b c d e f x y z : Int) (k1 : bvB a b c d e f = true) (c0 : a ≤ x) (c1 : x ≤ d) (c2 : b ≤ y) (c3 : y ≤ e) (n4 : z < c) (w : World) :
    Calls Tryz.prog 67 #[.agg #[.int .i64 a, .int .i64 b, .int .i64 c, .int .i64 d, .int .i64 e, .int .i64 f], .agg #[.int .i64 x, .int .i64 y, .int .i64 z]] w fun r w' => r = .returned (.bool false) ∧ Below w.heap.size w w' := by
  have V1 := Lib.hid fun w => rvalidBox_any a b c d e f w
  rw [k1] at V1
  clear k1
  have p1 := Lib.hid (blk_alloc (blk_new w (.cells #[.int .i64 a, .int .i64 b, .int .i64 c, .int .i64 d, .int .i64 e, .int .i64 f] 28)) (.cells #[.int .i64 x, .int .i64 y, .int .i64 z] 26))
  have p2 := Lib.hid (blk_new1 w (.cells #[.int .i64 a, .int .i64 b, .int .i64 c, .int .i64 d, .int .i64 e, .int .i64 f] 28) (.cells #[.int .i64 x, .int .i64 y, .int .i64 z] 26))
  have hA := Lib.hid (Buf.then_ (new_block (w := w) (.cells #[.int .i64 a, .int .i64 b, .int .i64 c, .int .i64 d, .int .i64 e, .int .i64 f] 28)) (new_block (.cells #[.int .i64 x, .int .i64 y, .int .i64 z] 26)))
  go_enter Tryz.func67, Tryz.ntmps67
  go_wp2_with fail
  with_reducible refine (V1.out _).mono ?_
  rintro r w1 ⟨rfl, hb⟩
  replace p1 := Lib.hid (blk_b hb p1.out)
  replace p2 := Lib.hid (blk_b hb p2.out)
  replace hA := Lib.hid (Buf.then_ hA.out hb)
  clear hb
  obtain ⟨u1, u2, u3, u4, u5, u6⟩ := cells6 p1.out
  obtain ⟨q1, q2, q3, _, _, _⟩ := cells3 p2.out
  go_wp2_with fail
  go_ret
  exact ⟨rfl, hA.out⟩
set_option maxHeartbeats 8000000 in
set_option maxRecDepth 100000 in
theorem rcon_6 (a b c d e f x y z : Int) (k1 : bvB a b c d e f = true) (c0 : a ≤ x) (c1 : x ≤ d) (c2 : b ≤ y) (c3 : y ≤ e) (c4 : c ≤ z) (w : World) :
    Calls Tryz.prog 67 #[.agg #[.int .i64 a, .int .i64 b, .int .i64 c, .int .i64 d, .int .i64 e, .int .i64 f], .agg #[.int .i64 x, .int .i64 y, .int .i64 z]] w fun r w' => r = .returned (.bool (decide (z ≤ f))) ∧ Below w.heap.size w w' := by
  have V1 := Lib.hid fun w => rvalidBox_any a b c d e f w
  rw [k1] at V1
  clear k1
  have p1 := Lib.hid (blk_alloc (blk_new w (.cells #[.int .i64 a, .int .i64 b, .int .i64 c, .int .i64 d, .int .i64 e, .int .i64 f] 28)) (.cells #[.int .i64 x, .int .i64 y, .int .i64 z] 26))
  have p2 := Lib.hid (blk_new1 w (.cells #[.int .i64 a, .int .i64 b, .int .i64 c, .int .i64 d, .int .i64 e, .int .i64 f] 28) (.cells #[.int .i64 x, .int .i64 y, .int .i64 z] 26))
  have hA := Lib.hid (Buf.then_ (new_block (w := w) (.cells #[.int .i64 a, .int .i64 b, .int .i64 c, .int .i64 d, .int .i64 e, .int .i64 f] 28)) (new_block (.cells #[.int .i64 x, .int .i64 y, .int .i64 z] 26)))
  go_enter Tryz.func67, Tryz.ntmps67
  go_wp2_with fail
  with_reducible refine (V1.out _).mono ?_
  rintro r w1 ⟨rfl, hb⟩
  replace p1 := Lib.hid (blk_b hb p1.out)
  replace p2 := Lib.hid (blk_b hb p2.out)
  replace hA := Lib.hid (Buf.then_ hA.out hb)
  clear hb
  obtain ⟨u1, u2, u3, u4, u5, u6⟩ := cells6 p1.out
  obtain ⟨q1, q2, q3, _, _, _⟩ := cells3 p2.out
  go_wp2_with fail
  go_ret
  exact ⟨rfl, hA.out⟩
theorem rcontains_any (a b c d e f x y z : Int) (w : World) :
    Calls Tryz.prog 67 #[.agg #[.int .i64 a, .int .i64 b, .int .i64 c, .int .i64 d, .int .i64 e, .int .i64 f], .agg #[.int .i64 x, .int .i64 y, .int .i64 z]] w fun r w' => r = .returned (.bool (coV a b c d e f x y z)) ∧ Below w.heap.size w w' := by
  have e0 : coV a b c d e f x y z = (bvB a b c d e f && (decide (a ≤ x) && (decide (x ≤ d) && (decide (b ≤ y) && (decide (y ≤ e) && (decide (c ≤ z) && decide (z ≤ f))))))) := by
    unfold coV
    rw [Bool.eq_iff_iff]
    simp only [Bool.and_eq_true, decide_eq_true_eq]
  rw [e0]
  cases k1 : bvB a b c d e f with
  | false => exact rcon_0 a b c d e f x y z k1 w
  | true =>
    rw [Bool.true_and]
    by_cases c0 : a ≤ x
    · rw [decide_eq_true c0, Bool.true_and]
      by_cases c1 : x ≤ d
      · rw [decide_eq_true c1, Bool.true_and]
        by_cases c2 : b ≤ y
        · rw [decide_eq_true c2, Bool.true_and]
          by_cases c3 : y ≤ e
          · rw [decide_eq_true c3, Bool.true_and]
            by_cases c4 : c ≤ z
            · rw [decide_eq_true c4, Bool.true_and]
              exact rcon_6 a b c d e f x y z k1 c0 c1 c2 c3 c4 w
            · rw [decide_eq_false c4, Bool.false_and]
              exact rcon_5 a b c d e f x y z k1 c0 c1 c2 c3 (by omega) w
          · rw [decide_eq_false c3, Bool.false_and]
            exact rcon_4 a b c d e f x y z k1 c0 c1 c2 (by omega) w
        · rw [decide_eq_false c2, Bool.false_and]
          exact rcon_3 a b c d e f x y z k1 c0 c1 (by omega) w
      · rw [decide_eq_false c1, Bool.false_and]
        exact rcon_2 a b c d e f x y z k1 c0 (by omega) w
    · rw [decide_eq_false c0, Bool.false_and]
      exact rcon_1 a b c d e f x y z k1  (by omega) w
set_option maxHeartbeats 8000000 in
set_option maxRecDepth 100000 in
theorem rwithin_any (a b c d e f a' b' c' d' e' f' : Int) (w : World) :
    Calls Tryz.prog 48 #[.agg #[.int .i64 a, .int .i64 b, .int .i64 c, .int .i64 d, .int .i64 e, .int .i64 f], .agg #[.int .i64 a', .int .i64 b', .int .i64 c', .int .i64 d', .int .i64 e', .int .i64 f']] w fun r w' => r = .returned (.bool (wiV a b c d e f a' b' c' d' e' f')) ∧ Below w.heap.size w w' := by
  rw [wi_co]
  have V1 := Lib.hid fun w => rvalidBox_any a b c d e f w
  have V2 := Lib.hid fun w => rcontains_any a' b' c' d' e' f' a b c w
  have V3 := Lib.hid fun w => rcontains_any a' b' c' d' e' f' d e f w
  generalize bvB a b c d e f = v1 at *
  generalize coV a' b' c' d' e' f' a b c = v2 at *
  generalize coV a' b' c' d' e' f' d e f = v3 at *
  have p1 := Lib.hid (blk_alloc (blk_new w (.cells #[.int .i64 a, .int .i64 b, .int .i64 c, .int .i64 d, .int .i64 e, .int .i64 f] 28)) (.cells #[.int .i64 a', .int .i64 b', .int .i64 c', .int .i64 d', .int .i64 e', .int .i64 f'] 28))
  have p2 := Lib.hid (blk_new1 w (.cells #[.int .i64 a, .int .i64 b, .int .i64 c, .int .i64 d, .int .i64 e, .int .i64 f] 28) (.cells #[.int .i64 a', .int .i64 b', .int .i64 c', .int .i64 d', .int .i64 e', .int .i64 f'] 28))
  have hA := Lib.hid (Buf.then_ (new_block (w := w) (.cells #[.int .i64 a, .int .i64 b, .int .i64 c, .int .i64 d, .int .i64 e, .int .i64 f] 28)) (new_block (.cells #[.int .i64 a', .int .i64 b', .int .i64 c', .int .i64 d', .int .i64 e', .int .i64 f'] 28)))
  go_enter Tryz.func48, Tryz.ntmps48
  go_wp2_with fail
  with_reducible refine (V1.out _).mono ?_
  rintro r w1 ⟨rfl, hb⟩
  replace p1 := Lib.hid (blk_b hb p1.out)
  replace p2 := Lib.hid (blk_b hb p2.out)
  replace hA := Lib.hid (Buf.then_ hA.out hb)
  clear hb
  cases v1 with
  | false =>
    go_wp2_with fail
    go_ret
    exact ⟨rfl, hA.out⟩
  | true =>
    obtain ⟨u1, u2, u3, u4, u5, u6⟩ := cells6 p1.out
    obtain ⟨q1, q2, q3, q4, q5, q6⟩ := cells6 p2.out
    go_wp2_with fail
    with_reducible refine (V2.out _).mono ?_
    rintro r w2 ⟨rfl, hb⟩
    replace p1 := Lib.hid (blk_b hb p1.out)
    replace p2 := Lib.hid (blk_b hb p2.out)
    replace hA := Lib.hid (Buf.then_ hA.out hb)
    clear hb
    cases v2 with
    | false =>
      go_wp2_with fail
      go_ret
      exact ⟨rfl, hA.out⟩
    | true =>
      clear u1 u2 u3 u4 u5 u6 q1 q2 q3 q4 q5 q6
      obtain ⟨u1, u2, u3, u4, u5, u6⟩ := cells6 p1.out
      obtain ⟨q1, q2, q3, q4, q5, q6⟩ := cells6 p2.out
      go_wp2_with fail
      with_reducible refine (V3.out _).mono ?_
      rintro r w3 ⟨rfl, hb⟩
      replace hA := Lib.hid (Buf.then_ hA.out hb)
      clear hb
      go_wp2_with fail
      go_ret
      exact ⟨rfl, hA.out⟩
end Geo
end Go.Proofs.YtmmikihkfpkapaaGreat
