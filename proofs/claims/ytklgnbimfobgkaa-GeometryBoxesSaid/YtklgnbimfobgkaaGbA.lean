/- Package geometry at any boxes. -/
import Derived.Test.YtklgnbimfobgkaaGeoQ
import Derived.Test.YtklgnbimfobgkaaGeoI
set_option linter.unusedVariables false
set_option linter.unusedSimpArgs false
namespace Go.Proofs.Ytklgnbimfobgkaa
open Go.RowKit
namespace Geo
/-- Whether a box is valid. -/
def bvB (a b c d e f : Int) : Bool := decide (a ≤ d) && (decide (b ≤ e) && (decide (c ≤ f) && (pvB a b c && pvB d e f)))
theorem bvB_yes {a b c d e f : Int} (h : bvB a b c d e f = true) : BV a b c d e f := by
  simp only [bvB, Bool.and_eq_true, decide_eq_true_eq] at h
  exact ⟨pvB_yes h.2.2.2.1, pvB_yes h.2.2.2.2, h.1, h.2.1, h.2.2.1⟩
theorem bvB_of {a b c d e f : Int} (h : BV a b c d e f) : bvB a b c d e f = true := by
  obtain ⟨h1, h2, h3, h4, h5⟩ := h
  simp [bvB, pvB_of h1, pvB_of h2, h3, h4, h5]
set_option maxHeartbeats 1000000 in
theorem validBox_ok (a b c d e f : Int) (hx : a ≤ d) (hy : b ≤ e) (hz : c ≤ f) (w : World) :
    Calls Try.prog 13 #[.agg #[.int .i64 a, .int .i64 b, .int .i64 c, .int .i64 d, .int .i64 e, .int .i64 f]] w fun r w' => r = .returned (.bool (pvB a b c && pvB d e f)) ∧ Below w.heap.size w w' := by
  have V1 := Lib.hid (valid_any a b c)
  have V2 := Lib.hid (valid_any d e f)
  obtain ⟨p1, hp1⟩ : ∃ q, q = pvB a b c := ⟨_, rfl⟩
  obtain ⟨p2, hp2⟩ : ∃ q, q = pvB d e f := ⟨_, rfl⟩
  rw [← hp1] at V1 ⊢
  rw [← hp2] at V2 ⊢
  clear hp1 hp2
  have g1 := Lib.hid (blk_new w (.cells #[.int .i64 a, .int .i64 b, .int .i64 c, .int .i64 d, .int .i64 e, .int .i64 f] 25))
  go_enter Try.func13, Try.ntmps13
  go_wp2_with fail
  refine (ends_any a b c d e f _).mono ?_
  rintro r w1 ⟨rfl, hb⟩
  replace g1 := Lib.hid (blk_alloc (blk_alloc (blk_b hb g1.out) (.cells #[.int .i64 a, .int .i64 b, .int .i64 c] 55)) (.cells #[.int .i64 d, .int .i64 e, .int .i64 f] 55))
  have g2 := Lib.hid (blk_alloc (blk_new w1 (.cells #[.int .i64 a, .int .i64 b, .int .i64 c] 55)) (.cells #[.int .i64 d, .int .i64 e, .int .i64 f] 55))
  have g3 := Lib.hid (blk_new1 w1 (.cells #[.int .i64 a, .int .i64 b, .int .i64 c] 55) (.cells #[.int .i64 d, .int .i64 e, .int .i64 f] 55))
  have hW : Hid (Below w.heap.size w ((w1.alloc (.cells #[.int .i64 a, .int .i64 b, .int .i64 c] 55)).alloc (.cells #[.int .i64 d, .int .i64 e, .int .i64 f] 55))) := Lib.hid (Buf.then_ (Buf.then_ (Buf.then_ (new_block _) hb) (new_block _)) (new_block _))
  clear hb
  go_wp2_with fail
  go_loopw [11] (fun i wr => ∃ k : Nat, k ≤ 3 ∧ i = .int .i64 k ∧ Hid (wr.heap[w.heap.size]? = some (.cells #[.int .i64 a, .int .i64 b, .int .i64 c, .int .i64 d, .int .i64 e, .int .i64 f] 25 (0, 0))) ∧ Hid (wr.heap[w1.heap.size]? = some (.cells #[.int .i64 a, .int .i64 b, .int .i64 c] 55 (0, 0))) ∧ Hid (wr.heap[w1.heap.size + 1]? = some (.cells #[.int .i64 d, .int .i64 e, .int .i64 f] 55 (0, 0))) ∧ Hid (Below w.heap.size w wr)) (fun i _ => (3 - intOf i).toNat)
  case atStart => exact ⟨0, by omega, rfl, g1, g2, g3, hW⟩
  case round =>
    clear g1 g2 g3 hW
    obtain ⟨k, hk, rfl, g1, g2, g3, hW⟩ := hrel
    obtain ⟨a1, a2, a3, a4, a5, a6⟩ := cells6 g1.out
    obtain ⟨b1, b2, b3, _, _, _⟩ := cells3 g2.out
    obtain ⟨c1, c2, c3, _, _, _⟩ := cells3 g3.out
    by_cases h0 : k = 0
    · subst h0
      go_wp2
      go_quiet (fail)
      go_wp2
      go_roundw
      case rel => exact ⟨1, by omega, rfl, g1, g2, g3, Lib.hid (Buf.below_drewN hW.out _)⟩
      case measure => simp [intOf]
    by_cases h1 : k = 1
    · subst h1
      go_wp2
      go_quiet (fail)
      go_wp2
      go_roundw
      case rel => exact ⟨2, by omega, rfl, g1, g2, g3, Lib.hid (Buf.below_drewN hW.out _)⟩
      case measure => simp [intOf]
    by_cases h2 : k = 2
    · subst h2
      go_wp2
      go_quiet (fail)
      go_wp2
      go_roundw
      case rel => exact ⟨3, by omega, rfl, g1, g2, g3, Lib.hid (Buf.below_drewN hW.out _)⟩
      case measure => simp [intOf]
    obtain rfl : k = 3 := by omega
    clear b1 b2 b3 c1 c2 c3 g2 g3
    go_wp2_with fail
    with_reducible refine (V1.out _).mono ?_
    rintro r w2 ⟨rfl, hb⟩
    obtain ⟨d1, d2, d3, d4, d5, d6⟩ := cells6 (blk_b hb g1.out)
    have hW2 := Lib.hid (Buf.then_ hW.out hb)
    clear hb hW a1 a2 a3 a4 a5 a6
    cases p1 with
    | true =>
      go_wp2_with fail
      with_reducible refine (V2.out _).mono ?_
      rintro r w3 ⟨rfl, hb⟩
      have hW3 := Lib.hid (Buf.then_ hW2.out hb)
      clear hb hW2
      go_wp2
      go_ret
      exact ⟨rfl, hW3.out⟩
    | false =>
      go_wp2_with fail
      go_ret
      exact ⟨rfl, hW2.out⟩
set_option maxHeartbeats 1000000 in
theorem validBox_no0 (a b c d e f : Int) (hx : d < a) (w : World) :
    Calls Try.prog 13 #[.agg #[.int .i64 a, .int .i64 b, .int .i64 c, .int .i64 d, .int .i64 e, .int .i64 f]] w fun r w' => r = .returned (.bool false) ∧ Below w.heap.size w w' := by
  have g1 := Lib.hid (blk_new w (.cells #[.int .i64 a, .int .i64 b, .int .i64 c, .int .i64 d, .int .i64 e, .int .i64 f] 25))
  go_enter Try.func13, Try.ntmps13
  go_wp2_with fail
  refine (ends_any a b c d e f _).mono ?_
  rintro r w1 ⟨rfl, hb⟩
  replace g1 := Lib.hid (blk_alloc (blk_alloc (blk_b hb g1.out) (.cells #[.int .i64 a, .int .i64 b, .int .i64 c] 55)) (.cells #[.int .i64 d, .int .i64 e, .int .i64 f] 55))
  have g2 := Lib.hid (blk_alloc (blk_new w1 (.cells #[.int .i64 a, .int .i64 b, .int .i64 c] 55)) (.cells #[.int .i64 d, .int .i64 e, .int .i64 f] 55))
  have g3 := Lib.hid (blk_new1 w1 (.cells #[.int .i64 a, .int .i64 b, .int .i64 c] 55) (.cells #[.int .i64 d, .int .i64 e, .int .i64 f] 55))
  have hW : Hid (Below w.heap.size w ((w1.alloc (.cells #[.int .i64 a, .int .i64 b, .int .i64 c] 55)).alloc (.cells #[.int .i64 d, .int .i64 e, .int .i64 f] 55))) := Lib.hid (Buf.then_ (Buf.then_ (Buf.then_ (new_block _) hb) (new_block _)) (new_block _))
  clear hb
  go_wp2_with fail
  go_loopw [11] (fun i wr => ∃ k : Nat, k ≤ 0 ∧ i = .int .i64 k ∧ Hid (wr.heap[w.heap.size]? = some (.cells #[.int .i64 a, .int .i64 b, .int .i64 c, .int .i64 d, .int .i64 e, .int .i64 f] 25 (0, 0))) ∧ Hid (wr.heap[w1.heap.size]? = some (.cells #[.int .i64 a, .int .i64 b, .int .i64 c] 55 (0, 0))) ∧ Hid (wr.heap[w1.heap.size + 1]? = some (.cells #[.int .i64 d, .int .i64 e, .int .i64 f] 55 (0, 0))) ∧ Hid (Below w.heap.size w wr)) (fun i _ => (3 - intOf i).toNat)
  case atStart => exact ⟨0, by omega, rfl, g1, g2, g3, hW⟩
  case round =>
    clear g1 g2 g3 hW
    obtain ⟨k, hk, rfl, g1, g2, g3, hW⟩ := hrel
    obtain ⟨a1, a2, a3, a4, a5, a6⟩ := cells6 g1.out
    obtain ⟨b1, b2, b3, _, _, _⟩ := cells3 g2.out
    obtain ⟨c1, c2, c3, _, _, _⟩ := cells3 g3.out
    obtain rfl : k = 0 := by omega
    go_wp2
    go_quiet (fail)
    go_wp2
    go_ret
    exact ⟨rfl, Buf.below_drewN hW.out _⟩
set_option maxHeartbeats 1000000 in
theorem validBox_no1 (a b c d e f : Int) (hx : a ≤ d) (hy : e < b) (w : World) :
    Calls Try.prog 13 #[.agg #[.int .i64 a, .int .i64 b, .int .i64 c, .int .i64 d, .int .i64 e, .int .i64 f]] w fun r w' => r = .returned (.bool false) ∧ Below w.heap.size w w' := by
  have g1 := Lib.hid (blk_new w (.cells #[.int .i64 a, .int .i64 b, .int .i64 c, .int .i64 d, .int .i64 e, .int .i64 f] 25))
  go_enter Try.func13, Try.ntmps13
  go_wp2_with fail
  refine (ends_any a b c d e f _).mono ?_
  rintro r w1 ⟨rfl, hb⟩
  replace g1 := Lib.hid (blk_alloc (blk_alloc (blk_b hb g1.out) (.cells #[.int .i64 a, .int .i64 b, .int .i64 c] 55)) (.cells #[.int .i64 d, .int .i64 e, .int .i64 f] 55))
  have g2 := Lib.hid (blk_alloc (blk_new w1 (.cells #[.int .i64 a, .int .i64 b, .int .i64 c] 55)) (.cells #[.int .i64 d, .int .i64 e, .int .i64 f] 55))
  have g3 := Lib.hid (blk_new1 w1 (.cells #[.int .i64 a, .int .i64 b, .int .i64 c] 55) (.cells #[.int .i64 d, .int .i64 e, .int .i64 f] 55))
  have hW : Hid (Below w.heap.size w ((w1.alloc (.cells #[.int .i64 a, .int .i64 b, .int .i64 c] 55)).alloc (.cells #[.int .i64 d, .int .i64 e, .int .i64 f] 55))) := Lib.hid (Buf.then_ (Buf.then_ (Buf.then_ (new_block _) hb) (new_block _)) (new_block _))
  clear hb
  go_wp2_with fail
  go_loopw [11] (fun i wr => ∃ k : Nat, k ≤ 1 ∧ i = .int .i64 k ∧ Hid (wr.heap[w.heap.size]? = some (.cells #[.int .i64 a, .int .i64 b, .int .i64 c, .int .i64 d, .int .i64 e, .int .i64 f] 25 (0, 0))) ∧ Hid (wr.heap[w1.heap.size]? = some (.cells #[.int .i64 a, .int .i64 b, .int .i64 c] 55 (0, 0))) ∧ Hid (wr.heap[w1.heap.size + 1]? = some (.cells #[.int .i64 d, .int .i64 e, .int .i64 f] 55 (0, 0))) ∧ Hid (Below w.heap.size w wr)) (fun i _ => (3 - intOf i).toNat)
  case atStart => exact ⟨0, by omega, rfl, g1, g2, g3, hW⟩
  case round =>
    clear g1 g2 g3 hW
    obtain ⟨k, hk, rfl, g1, g2, g3, hW⟩ := hrel
    obtain ⟨a1, a2, a3, a4, a5, a6⟩ := cells6 g1.out
    obtain ⟨b1, b2, b3, _, _, _⟩ := cells3 g2.out
    obtain ⟨c1, c2, c3, _, _, _⟩ := cells3 g3.out
    by_cases h0 : k = 0
    · subst h0
      go_wp2
      go_quiet (fail)
      go_wp2
      go_roundw
      case rel => exact ⟨1, by omega, rfl, g1, g2, g3, Lib.hid (Buf.below_drewN hW.out _)⟩
      case measure => simp [intOf]
    obtain rfl : k = 1 := by omega
    go_wp2
    go_quiet (fail)
    go_wp2
    go_ret
    exact ⟨rfl, Buf.below_drewN hW.out _⟩
set_option maxHeartbeats 1000000 in
theorem validBox_no2 (a b c d e f : Int) (hx : a ≤ d) (hy : b ≤ e) (hz : f < c) (w : World) :
    Calls Try.prog 13 #[.agg #[.int .i64 a, .int .i64 b, .int .i64 c, .int .i64 d, .int .i64 e, .int .i64 f]] w fun r w' => r = .returned (.bool false) ∧ Below w.heap.size w w' := by
  have g1 := Lib.hid (blk_new w (.cells #[.int .i64 a, .int .i64 b, .int .i64 c, .int .i64 d, .int .i64 e, .int .i64 f] 25))
  go_enter Try.func13, Try.ntmps13
  go_wp2_with fail
  refine (ends_any a b c d e f _).mono ?_
  rintro r w1 ⟨rfl, hb⟩
  replace g1 := Lib.hid (blk_alloc (blk_alloc (blk_b hb g1.out) (.cells #[.int .i64 a, .int .i64 b, .int .i64 c] 55)) (.cells #[.int .i64 d, .int .i64 e, .int .i64 f] 55))
  have g2 := Lib.hid (blk_alloc (blk_new w1 (.cells #[.int .i64 a, .int .i64 b, .int .i64 c] 55)) (.cells #[.int .i64 d, .int .i64 e, .int .i64 f] 55))
  have g3 := Lib.hid (blk_new1 w1 (.cells #[.int .i64 a, .int .i64 b, .int .i64 c] 55) (.cells #[.int .i64 d, .int .i64 e, .int .i64 f] 55))
  have hW : Hid (Below w.heap.size w ((w1.alloc (.cells #[.int .i64 a, .int .i64 b, .int .i64 c] 55)).alloc (.cells #[.int .i64 d, .int .i64 e, .int .i64 f] 55))) := Lib.hid (Buf.then_ (Buf.then_ (Buf.then_ (new_block _) hb) (new_block _)) (new_block _))
  clear hb
  go_wp2_with fail
  go_loopw [11] (fun i wr => ∃ k : Nat, k ≤ 2 ∧ i = .int .i64 k ∧ Hid (wr.heap[w.heap.size]? = some (.cells #[.int .i64 a, .int .i64 b, .int .i64 c, .int .i64 d, .int .i64 e, .int .i64 f] 25 (0, 0))) ∧ Hid (wr.heap[w1.heap.size]? = some (.cells #[.int .i64 a, .int .i64 b, .int .i64 c] 55 (0, 0))) ∧ Hid (wr.heap[w1.heap.size + 1]? = some (.cells #[.int .i64 d, .int .i64 e, .int .i64 f] 55 (0, 0))) ∧ Hid (Below w.heap.size w wr)) (fun i _ => (3 - intOf i).toNat)
  case atStart => exact ⟨0, by omega, rfl, g1, g2, g3, hW⟩
  case round =>
    clear g1 g2 g3 hW
    obtain ⟨k, hk, rfl, g1, g2, g3, hW⟩ := hrel
    obtain ⟨a1, a2, a3, a4, a5, a6⟩ := cells6 g1.out
    obtain ⟨b1, b2, b3, _, _, _⟩ := cells3 g2.out
    obtain ⟨c1, c2, c3, _, _, _⟩ := cells3 g3.out
    by_cases h0 : k = 0
    · subst h0
      go_wp2
      go_quiet (fail)
      go_wp2
      go_roundw
      case rel => exact ⟨1, by omega, rfl, g1, g2, g3, Lib.hid (Buf.below_drewN hW.out _)⟩
      case measure => simp [intOf]
    by_cases h1 : k = 1
    · subst h1
      go_wp2
      go_quiet (fail)
      go_wp2
      go_roundw
      case rel => exact ⟨2, by omega, rfl, g1, g2, g3, Lib.hid (Buf.below_drewN hW.out _)⟩
      case measure => simp [intOf]
    obtain rfl : k = 2 := by omega
    go_wp2
    go_quiet (fail)
    go_wp2
    go_ret
    exact ⟨rfl, Buf.below_drewN hW.out _⟩
theorem validBox_any (a b c d e f : Int) (w : World) :
    Calls Try.prog 13 #[.agg #[.int .i64 a, .int .i64 b, .int .i64 c, .int .i64 d, .int .i64 e, .int .i64 f]] w fun r w' => r = .returned (.bool (bvB a b c d e f)) ∧ Below w.heap.size w w' := by
  unfold bvB
  by_cases hx : a ≤ d
  · rw [decide_eq_true hx, Bool.true_and]
    by_cases hy : b ≤ e
    · rw [decide_eq_true hy, Bool.true_and]
      by_cases hz : c ≤ f
      · rw [decide_eq_true hz, Bool.true_and]
        exact validBox_ok a b c d e f hx hy hz w
      · rw [decide_eq_false hz, Bool.false_and]
        exact validBox_no2 a b c d e f hx hy (by omega) w
    · rw [decide_eq_false hy, Bool.false_and]
      exact validBox_no1 a b c d e f hx (by omega) w
  · rw [decide_eq_false hx, Bool.false_and]
    exact validBox_no0 a b c d e f (by omega) w
end Geo
end Go.Proofs.Ytklgnbimfobgkaa
