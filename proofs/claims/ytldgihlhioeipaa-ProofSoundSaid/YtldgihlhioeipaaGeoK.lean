/- Contracts of package geometry: Within, Contains, whatever the valid boxes and positions. -/
import Derived.Test.YtldgihlhioeipaaGeoJ
namespace Go.Proofs.Ytldgihlhioeipaa
open Go.RowKit
namespace Geo
/-- Whether a box lies within another one. -/
def wiB (a b c d e f a' b' c' d' e' f' : Int) : Bool := decide (a' ≤ a ∧ d ≤ d' ∧ b' ≤ b ∧ e ≤ e' ∧ c' ≤ c ∧ f ≤ f')
theorem wiB_no {a b c d e f a' b' c' d' e' f' : Int} (h : wiB a b c d e f a' b' c' d' e' f' = false) : (a < a') ∨ (a' ≤ a ∧ d' < d) ∨ (a' ≤ a ∧ d ≤ d' ∧ b < b') ∨ (a' ≤ a ∧ d ≤ d' ∧ b' ≤ b ∧ e' < e) ∨ (a' ≤ a ∧ d ≤ d' ∧ b' ≤ b ∧ e ≤ e' ∧ c < c') ∨ (a' ≤ a ∧ d ≤ d' ∧ b' ≤ b ∧ e ≤ e' ∧ c' ≤ c ∧ f' < f) := by
  simp only [wiB, decide_eq_false_iff_not] at h; omega
set_option maxHeartbeats 4000000 in
set_option maxRecDepth 100000 in
theorem within_yes (a b c d e f a' b' c' d' e' f' : Int) (h1 : BV a b c d e f) (h2 : BV a' b' c' d' e' f') (hw : a' ≤ a ∧ d ≤ d' ∧ b' ≤ b ∧ e ≤ e' ∧ c' ≤ c ∧ f ≤ f') (w : World) :
    Calls Try.prog 51 #[.agg #[.int .i64 a, .int .i64 b, .int .i64 c, .int .i64 d, .int .i64 e, .int .i64 f], .agg #[.int .i64 a', .int .i64 b', .int .i64 c', .int .i64 d', .int .i64 e', .int .i64 f']] w fun r w' => r = .returned (.bool true) ∧ Below w.heap.size w w' := by
  obtain ⟨l1, l2, l3, l4, l5, l6⟩ := hw
  have V1 := Lib.hid (validBox_yes a b c d e f h1)
  have V2 := Lib.hid (validBox_yes a' b' c' d' e' f' h2)
  obtain ⟨⟨ax0, ax1, ay0, ay1, az0, az1⟩, ⟨dx0, dx1, dy0, dy1, dz0, dz1⟩, hx, hy, hz⟩ := h1
  obtain ⟨⟨ax0', ax1', ay0', ay1', az0', az1'⟩, ⟨dx0', dx1', dy0', dy1', dz0', dz1'⟩, hx', hy', hz'⟩ := h2
  have p1 := Lib.hid (blk_alloc (blk_new w (.cells #[.int .i64 a, .int .i64 b, .int .i64 c, .int .i64 d, .int .i64 e, .int .i64 f] 26)) (.cells #[.int .i64 a', .int .i64 b', .int .i64 c', .int .i64 d', .int .i64 e', .int .i64 f'] 26))
  have p2 := Lib.hid (blk_new1 w (.cells #[.int .i64 a, .int .i64 b, .int .i64 c, .int .i64 d, .int .i64 e, .int .i64 f] 26) (.cells #[.int .i64 a', .int .i64 b', .int .i64 c', .int .i64 d', .int .i64 e', .int .i64 f'] 26))
  have hA : Hid (Below w.heap.size w ((w.alloc (.cells #[.int .i64 a, .int .i64 b, .int .i64 c, .int .i64 d, .int .i64 e, .int .i64 f] 26)).alloc (.cells #[.int .i64 a', .int .i64 b', .int .i64 c', .int .i64 d', .int .i64 e', .int .i64 f'] 26))) := Lib.hid (Buf.then_ (new_block _) (new_block _))
  go_enter Try.func51, Try.ntmps51
  go_wp2_with fail
  with_reducible refine (V1.out _).mono ?_
  rintro r w1 ⟨rfl, hb⟩
  replace p1 := Lib.hid (blk_b hb p1.out)
  replace p2 := Lib.hid (blk_b hb p2.out)
  replace hA := Lib.hid (Buf.then_ hA.out hb)
  clear hb
  obtain ⟨u1, u2, u3, u4, u5, u6⟩ := cells6 p1.out
  obtain ⟨v1, v2, v3, v4, v5, v6⟩ := cells6 p2.out
  go_wp2_with fail
  with_reducible refine (V2.out _).mono ?_
  rintro r w2 ⟨rfl, hb⟩
  replace p1 := Lib.hid (blk_b hb p1.out)
  replace p2 := Lib.hid (blk_b hb p2.out)
  replace hA := Lib.hid (Buf.then_ hA.out hb)
  clear hb u1 u2 u3 u4 u5 u6 v1 v2 v3 v4 v5 v6
  obtain ⟨u1, u2, u3, u4, u5, u6⟩ := cells6 p1.out
  go_wp2_with fail
  refine (ends_any a b c d e f _).mono ?_
  rintro r w3 ⟨rfl, hb⟩
  replace p1 := Lib.hid (blk_alloc (blk_alloc (blk_b hb p1.out) (.cells #[.int .i64 a, .int .i64 b, .int .i64 c] 95)) (.cells #[.int .i64 d, .int .i64 e, .int .i64 f] 95))
  replace p2 := Lib.hid (blk_alloc (blk_alloc (blk_b hb p2.out) (.cells #[.int .i64 a, .int .i64 b, .int .i64 c] 95)) (.cells #[.int .i64 d, .int .i64 e, .int .i64 f] 95))
  have g1 := Lib.hid (blk_alloc (blk_new w3 (.cells #[.int .i64 a, .int .i64 b, .int .i64 c] 95)) (.cells #[.int .i64 d, .int .i64 e, .int .i64 f] 95))
  have g2 := Lib.hid (blk_new1 w3 (.cells #[.int .i64 a, .int .i64 b, .int .i64 c] 95) (.cells #[.int .i64 d, .int .i64 e, .int .i64 f] 95))
  replace hA : Hid (Below w.heap.size w ((w3.alloc (.cells #[.int .i64 a, .int .i64 b, .int .i64 c] 95)).alloc (.cells #[.int .i64 d, .int .i64 e, .int .i64 f] 95))) := Lib.hid (Buf.then_ (Buf.then_ (Buf.then_ hA.out hb) (new_block _)) (new_block _))
  clear hb u1 u2 u3 u4 u5 u6
  obtain ⟨v1, v2, v3, v4, v5, v6⟩ := cells6 p2.out
  go_wp2_with fail
  refine (ends_any a' b' c' d' e' f' _).mono ?_
  rintro r w4 ⟨rfl, hb⟩
  replace p1 := Lib.hid (blk_alloc (blk_alloc (blk_b hb p1.out) (.cells #[.int .i64 a', .int .i64 b', .int .i64 c'] 95)) (.cells #[.int .i64 d', .int .i64 e', .int .i64 f'] 95))
  replace p2 := Lib.hid (blk_alloc (blk_alloc (blk_b hb p2.out) (.cells #[.int .i64 a', .int .i64 b', .int .i64 c'] 95)) (.cells #[.int .i64 d', .int .i64 e', .int .i64 f'] 95))
  replace g1 := Lib.hid (blk_alloc (blk_alloc (blk_b hb g1.out) (.cells #[.int .i64 a', .int .i64 b', .int .i64 c'] 95)) (.cells #[.int .i64 d', .int .i64 e', .int .i64 f'] 95))
  replace g2 := Lib.hid (blk_alloc (blk_alloc (blk_b hb g2.out) (.cells #[.int .i64 a', .int .i64 b', .int .i64 c'] 95)) (.cells #[.int .i64 d', .int .i64 e', .int .i64 f'] 95))
  have g3 := Lib.hid (blk_alloc (blk_new w4 (.cells #[.int .i64 a', .int .i64 b', .int .i64 c'] 95)) (.cells #[.int .i64 d', .int .i64 e', .int .i64 f'] 95))
  have g4 := Lib.hid (blk_new1 w4 (.cells #[.int .i64 a', .int .i64 b', .int .i64 c'] 95) (.cells #[.int .i64 d', .int .i64 e', .int .i64 f'] 95))
  replace hA : Hid (Below w.heap.size w ((w4.alloc (.cells #[.int .i64 a', .int .i64 b', .int .i64 c'] 95)).alloc (.cells #[.int .i64 d', .int .i64 e', .int .i64 f'] 95))) := Lib.hid (Buf.then_ (Buf.then_ (Buf.then_ hA.out hb) (new_block _)) (new_block _))
  clear hb v1 v2 v3 v4 v5 v6 V1 V2
  go_wp2_with fail
  have e0 : decide (a < a') = false := by simp; omega
  have f0 : decide (d' < d) = false := by simp; omega
  have e1 : decide (b < b') = false := by simp; omega
  have f1 : decide (e' < e) = false := by simp; omega
  have e2 : decide (c < c') = false := by simp; omega
  have f2 : decide (f' < f) = false := by simp; omega
  go_loopw [28] (fun i wr => ∃ k : Nat, k ≤ 3 ∧ i = .int .i64 k ∧ Hid (wr.heap[w3.heap.size]? = some (.cells #[.int .i64 a, .int .i64 b, .int .i64 c] 95 (0, 0))) ∧ Hid (wr.heap[w3.heap.size + 1]? = some (.cells #[.int .i64 d, .int .i64 e, .int .i64 f] 95 (0, 0))) ∧ Hid (wr.heap[w4.heap.size]? = some (.cells #[.int .i64 a', .int .i64 b', .int .i64 c'] 95 (0, 0))) ∧ Hid (wr.heap[w4.heap.size + 1]? = some (.cells #[.int .i64 d', .int .i64 e', .int .i64 f'] 95 (0, 0))) ∧ Hid (Below w.heap.size w wr)) (fun i _ => (3 - intOf i).toNat)
  case atStart => exact ⟨0, by omega, rfl, g1, g2, g3, g4, hA⟩
  case round =>
    clear g1 g2 g3 g4 hA
    obtain ⟨k, hk, rfl, g1, g2, g3, g4, hA⟩ := hrel
    obtain ⟨bq1, bq2, bq3, _, _, _⟩ := cells3 g1.out
    obtain ⟨cq1, cq2, cq3, _, _, _⟩ := cells3 g2.out
    obtain ⟨dq1, dq2, dq3, _, _, _⟩ := cells3 g3.out
    obtain ⟨eq1, eq2, eq3, _, _, _⟩ := cells3 g4.out
    by_cases h0 : k = 0
    · subst h0
      go_wp2_with fail
      go_quiet (fail)
      go_wp2
      go_roundw
      case rel => exact ⟨1, by omega, rfl, g1, g2, g3, g4, Lib.hid (Buf.below_drewN hA.out _)⟩
      case measure => simp [intOf]
    by_cases h1 : k = 1
    · subst h1
      go_wp2_with fail
      go_quiet (fail)
      go_wp2
      go_roundw
      case rel => exact ⟨2, by omega, rfl, g1, g2, g3, g4, Lib.hid (Buf.below_drewN hA.out _)⟩
      case measure => simp [intOf]
    by_cases h2 : k = 2
    · subst h2
      go_wp2_with fail
      go_quiet (fail)
      go_wp2
      go_roundw
      case rel => exact ⟨3, by omega, rfl, g1, g2, g3, g4, Lib.hid (Buf.below_drewN hA.out _)⟩
      case measure => simp [intOf]
    obtain rfl : k = 3 := by omega
    go_wp2
    go_ret
    exact ⟨rfl, hA.out⟩
set_option maxHeartbeats 4000000 in
set_option maxRecDepth 100000 in
theorem within_no0 (a b c d e f a' b' c' d' e' f' : Int) (h1 : BV a b c d e f) (h2 : BV a' b' c' d' e' f')  (l0 : a < a') (w : World) :
    Calls Try.prog 51 #[.agg #[.int .i64 a, .int .i64 b, .int .i64 c, .int .i64 d, .int .i64 e, .int .i64 f], .agg #[.int .i64 a', .int .i64 b', .int .i64 c', .int .i64 d', .int .i64 e', .int .i64 f']] w fun r w' => r = .returned (.bool false) ∧ Below w.heap.size w w' := by
  have V1 := Lib.hid (validBox_yes a b c d e f h1)
  have V2 := Lib.hid (validBox_yes a' b' c' d' e' f' h2)
  obtain ⟨⟨ax0, ax1, ay0, ay1, az0, az1⟩, ⟨dx0, dx1, dy0, dy1, dz0, dz1⟩, hx, hy, hz⟩ := h1
  obtain ⟨⟨ax0', ax1', ay0', ay1', az0', az1'⟩, ⟨dx0', dx1', dy0', dy1', dz0', dz1'⟩, hx', hy', hz'⟩ := h2
  have p1 := Lib.hid (blk_alloc (blk_new w (.cells #[.int .i64 a, .int .i64 b, .int .i64 c, .int .i64 d, .int .i64 e, .int .i64 f] 26)) (.cells #[.int .i64 a', .int .i64 b', .int .i64 c', .int .i64 d', .int .i64 e', .int .i64 f'] 26))
  have p2 := Lib.hid (blk_new1 w (.cells #[.int .i64 a, .int .i64 b, .int .i64 c, .int .i64 d, .int .i64 e, .int .i64 f] 26) (.cells #[.int .i64 a', .int .i64 b', .int .i64 c', .int .i64 d', .int .i64 e', .int .i64 f'] 26))
  have hA : Hid (Below w.heap.size w ((w.alloc (.cells #[.int .i64 a, .int .i64 b, .int .i64 c, .int .i64 d, .int .i64 e, .int .i64 f] 26)).alloc (.cells #[.int .i64 a', .int .i64 b', .int .i64 c', .int .i64 d', .int .i64 e', .int .i64 f'] 26))) := Lib.hid (Buf.then_ (new_block _) (new_block _))
  go_enter Try.func51, Try.ntmps51
  go_wp2_with fail
  with_reducible refine (V1.out _).mono ?_
  rintro r w1 ⟨rfl, hb⟩
  replace p1 := Lib.hid (blk_b hb p1.out)
  replace p2 := Lib.hid (blk_b hb p2.out)
  replace hA := Lib.hid (Buf.then_ hA.out hb)
  clear hb
  obtain ⟨u1, u2, u3, u4, u5, u6⟩ := cells6 p1.out
  obtain ⟨v1, v2, v3, v4, v5, v6⟩ := cells6 p2.out
  go_wp2_with fail
  with_reducible refine (V2.out _).mono ?_
  rintro r w2 ⟨rfl, hb⟩
  replace p1 := Lib.hid (blk_b hb p1.out)
  replace p2 := Lib.hid (blk_b hb p2.out)
  replace hA := Lib.hid (Buf.then_ hA.out hb)
  clear hb u1 u2 u3 u4 u5 u6 v1 v2 v3 v4 v5 v6
  obtain ⟨u1, u2, u3, u4, u5, u6⟩ := cells6 p1.out
  go_wp2_with fail
  refine (ends_any a b c d e f _).mono ?_
  rintro r w3 ⟨rfl, hb⟩
  replace p1 := Lib.hid (blk_alloc (blk_alloc (blk_b hb p1.out) (.cells #[.int .i64 a, .int .i64 b, .int .i64 c] 95)) (.cells #[.int .i64 d, .int .i64 e, .int .i64 f] 95))
  replace p2 := Lib.hid (blk_alloc (blk_alloc (blk_b hb p2.out) (.cells #[.int .i64 a, .int .i64 b, .int .i64 c] 95)) (.cells #[.int .i64 d, .int .i64 e, .int .i64 f] 95))
  have g1 := Lib.hid (blk_alloc (blk_new w3 (.cells #[.int .i64 a, .int .i64 b, .int .i64 c] 95)) (.cells #[.int .i64 d, .int .i64 e, .int .i64 f] 95))
  have g2 := Lib.hid (blk_new1 w3 (.cells #[.int .i64 a, .int .i64 b, .int .i64 c] 95) (.cells #[.int .i64 d, .int .i64 e, .int .i64 f] 95))
  replace hA : Hid (Below w.heap.size w ((w3.alloc (.cells #[.int .i64 a, .int .i64 b, .int .i64 c] 95)).alloc (.cells #[.int .i64 d, .int .i64 e, .int .i64 f] 95))) := Lib.hid (Buf.then_ (Buf.then_ (Buf.then_ hA.out hb) (new_block _)) (new_block _))
  clear hb u1 u2 u3 u4 u5 u6
  obtain ⟨v1, v2, v3, v4, v5, v6⟩ := cells6 p2.out
  go_wp2_with fail
  refine (ends_any a' b' c' d' e' f' _).mono ?_
  rintro r w4 ⟨rfl, hb⟩
  replace p1 := Lib.hid (blk_alloc (blk_alloc (blk_b hb p1.out) (.cells #[.int .i64 a', .int .i64 b', .int .i64 c'] 95)) (.cells #[.int .i64 d', .int .i64 e', .int .i64 f'] 95))
  replace p2 := Lib.hid (blk_alloc (blk_alloc (blk_b hb p2.out) (.cells #[.int .i64 a', .int .i64 b', .int .i64 c'] 95)) (.cells #[.int .i64 d', .int .i64 e', .int .i64 f'] 95))
  replace g1 := Lib.hid (blk_alloc (blk_alloc (blk_b hb g1.out) (.cells #[.int .i64 a', .int .i64 b', .int .i64 c'] 95)) (.cells #[.int .i64 d', .int .i64 e', .int .i64 f'] 95))
  replace g2 := Lib.hid (blk_alloc (blk_alloc (blk_b hb g2.out) (.cells #[.int .i64 a', .int .i64 b', .int .i64 c'] 95)) (.cells #[.int .i64 d', .int .i64 e', .int .i64 f'] 95))
  have g3 := Lib.hid (blk_alloc (blk_new w4 (.cells #[.int .i64 a', .int .i64 b', .int .i64 c'] 95)) (.cells #[.int .i64 d', .int .i64 e', .int .i64 f'] 95))
  have g4 := Lib.hid (blk_new1 w4 (.cells #[.int .i64 a', .int .i64 b', .int .i64 c'] 95) (.cells #[.int .i64 d', .int .i64 e', .int .i64 f'] 95))
  replace hA : Hid (Below w.heap.size w ((w4.alloc (.cells #[.int .i64 a', .int .i64 b', .int .i64 c'] 95)).alloc (.cells #[.int .i64 d', .int .i64 e', .int .i64 f'] 95))) := Lib.hid (Buf.then_ (Buf.then_ (Buf.then_ hA.out hb) (new_block _)) (new_block _))
  clear hb v1 v2 v3 v4 v5 v6 V1 V2
  go_wp2_with fail
  have e0 : decide (a < a') = true := by simp; omega
  go_loopw [28] (fun i wr => ∃ k : Nat, k ≤ 0 ∧ i = .int .i64 k ∧ Hid (wr.heap[w3.heap.size]? = some (.cells #[.int .i64 a, .int .i64 b, .int .i64 c] 95 (0, 0))) ∧ Hid (wr.heap[w3.heap.size + 1]? = some (.cells #[.int .i64 d, .int .i64 e, .int .i64 f] 95 (0, 0))) ∧ Hid (wr.heap[w4.heap.size]? = some (.cells #[.int .i64 a', .int .i64 b', .int .i64 c'] 95 (0, 0))) ∧ Hid (wr.heap[w4.heap.size + 1]? = some (.cells #[.int .i64 d', .int .i64 e', .int .i64 f'] 95 (0, 0))) ∧ Hid (Below w.heap.size w wr)) (fun i _ => (0 - intOf i).toNat)
  case atStart => exact ⟨0, by omega, rfl, g1, g2, g3, g4, hA⟩
  case round =>
    clear g1 g2 g3 g4 hA
    obtain ⟨k, hk, rfl, g1, g2, g3, g4, hA⟩ := hrel
    obtain ⟨bq1, bq2, bq3, _, _, _⟩ := cells3 g1.out
    obtain ⟨cq1, cq2, cq3, _, _, _⟩ := cells3 g2.out
    obtain ⟨dq1, dq2, dq3, _, _, _⟩ := cells3 g3.out
    obtain ⟨eq1, eq2, eq3, _, _, _⟩ := cells3 g4.out
    obtain rfl : k = 0 := by omega
    go_wp2_with fail
    go_quiet (fail)
    go_wp2
    go_ret
    exact ⟨rfl, Buf.below_drewN hA.out _⟩
set_option maxHeartbeats 4000000 in
set_option maxRecDepth 100000 in
theorem within_no1 (a b c d e f a' b' c' d' e' f' : Int) (h1 : BV a b c d e f) (h2 : BV a' b' c' d' e' f') (l0 : a' ≤ a) (l1 : d' < d) (w : World) :
    Calls Try.prog 51 #[.agg #[.int .i64 a, .int .i64 b, .int .i64 c, .int .i64 d, .int .i64 e, .int .i64 f], .agg #[.int .i64 a', .int .i64 b', .int .i64 c', .int .i64 d', .int .i64 e', .int .i64 f']] w fun r w' => r = .returned (.bool false) ∧ Below w.heap.size w w' := by
  have V1 := Lib.hid (validBox_yes a b c d e f h1)
  have V2 := Lib.hid (validBox_yes a' b' c' d' e' f' h2)
  obtain ⟨⟨ax0, ax1, ay0, ay1, az0, az1⟩, ⟨dx0, dx1, dy0, dy1, dz0, dz1⟩, hx, hy, hz⟩ := h1
  obtain ⟨⟨ax0', ax1', ay0', ay1', az0', az1'⟩, ⟨dx0', dx1', dy0', dy1', dz0', dz1'⟩, hx', hy', hz'⟩ := h2
  have p1 := Lib.hid (blk_alloc (blk_new w (.cells #[.int .i64 a, .int .i64 b, .int .i64 c, .int .i64 d, .int .i64 e, .int .i64 f] 26)) (.cells #[.int .i64 a', .int .i64 b', .int .i64 c', .int .i64 d', .int .i64 e', .int .i64 f'] 26))
  have p2 := Lib.hid (blk_new1 w (.cells #[.int .i64 a, .int .i64 b, .int .i64 c, .int .i64 d, .int .i64 e, .int .i64 f] 26) (.cells #[.int .i64 a', .int .i64 b', .int .i64 c', .int .i64 d', .int .i64 e', .int .i64 f'] 26))
  have hA : Hid (Below w.heap.size w ((w.alloc (.cells #[.int .i64 a, .int .i64 b, .int .i64 c, .int .i64 d, .int .i64 e, .int .i64 f] 26)).alloc (.cells #[.int .i64 a', .int .i64 b', .int .i64 c', .int .i64 d', .int .i64 e', .int .i64 f'] 26))) := Lib.hid (Buf.then_ (new_block _) (new_block _))
  go_enter Try.func51, Try.ntmps51
  go_wp2_with fail
  with_reducible refine (V1.out _).mono ?_
  rintro r w1 ⟨rfl, hb⟩
  replace p1 := Lib.hid (blk_b hb p1.out)
  replace p2 := Lib.hid (blk_b hb p2.out)
  replace hA := Lib.hid (Buf.then_ hA.out hb)
  clear hb
  obtain ⟨u1, u2, u3, u4, u5, u6⟩ := cells6 p1.out
  obtain ⟨v1, v2, v3, v4, v5, v6⟩ := cells6 p2.out
  go_wp2_with fail
  with_reducible refine (V2.out _).mono ?_
  rintro r w2 ⟨rfl, hb⟩
  replace p1 := Lib.hid (blk_b hb p1.out)
  replace p2 := Lib.hid (blk_b hb p2.out)
  replace hA := Lib.hid (Buf.then_ hA.out hb)
  clear hb u1 u2 u3 u4 u5 u6 v1 v2 v3 v4 v5 v6
  obtain ⟨u1, u2, u3, u4, u5, u6⟩ := cells6 p1.out
  go_wp2_with fail
  refine (ends_any a b c d e f _).mono ?_
  rintro r w3 ⟨rfl, hb⟩
  replace p1 := Lib.hid (blk_alloc (blk_alloc (blk_b hb p1.out) (.cells #[.int .i64 a, .int .i64 b, .int .i64 c] 95)) (.cells #[.int .i64 d, .int .i64 e, .int .i64 f] 95))
  replace p2 := Lib.hid (blk_alloc (blk_alloc (blk_b hb p2.out) (.cells #[.int .i64 a, .int .i64 b, .int .i64 c] 95)) (.cells #[.int .i64 d, .int .i64 e, .int .i64 f] 95))
  have g1 := Lib.hid (blk_alloc (blk_new w3 (.cells #[.int .i64 a, .int .i64 b, .int .i64 c] 95)) (.cells #[.int .i64 d, .int .i64 e, .int .i64 f] 95))
  have g2 := Lib.hid (blk_new1 w3 (.cells #[.int .i64 a, .int .i64 b, .int .i64 c] 95) (.cells #[.int .i64 d, .int .i64 e, .int .i64 f] 95))
  replace hA : Hid (Below w.heap.size w ((w3.alloc (.cells #[.int .i64 a, .int .i64 b, .int .i64 c] 95)).alloc (.cells #[.int .i64 d, .int .i64 e, .int .i64 f] 95))) := Lib.hid (Buf.then_ (Buf.then_ (Buf.then_ hA.out hb) (new_block _)) (new_block _))
  clear hb u1 u2 u3 u4 u5 u6
  obtain ⟨v1, v2, v3, v4, v5, v6⟩ := cells6 p2.out
  go_wp2_with fail
  refine (ends_any a' b' c' d' e' f' _).mono ?_
  rintro r w4 ⟨rfl, hb⟩
  replace p1 := Lib.hid (blk_alloc (blk_alloc (blk_b hb p1.out) (.cells #[.int .i64 a', .int .i64 b', .int .i64 c'] 95)) (.cells #[.int .i64 d', .int .i64 e', .int .i64 f'] 95))
  replace p2 := Lib.hid (blk_alloc (blk_alloc (blk_b hb p2.out) (.cells #[.int .i64 a', .int .i64 b', .int .i64 c'] 95)) (.cells #[.int .i64 d', .int .i64 e', .int .i64 f'] 95))
  replace g1 := Lib.hid (blk_alloc (blk_alloc (blk_b hb g1.out) (.cells #[.int .i64 a', .int .i64 b', .int .i64 c'] 95)) (.cells #[.int .i64 d', .int .i64 e', .int .i64 f'] 95))
  replace g2 := Lib.hid (blk_alloc (blk_alloc (blk_b hb g2.out) (.cells #[.int .i64 a', .int .i64 b', .int .i64 c'] 95)) (.cells #[.int .i64 d', .int .i64 e', .int .i64 f'] 95))
  have g3 := Lib.hid (blk_alloc (blk_new w4 (.cells #[.int .i64 a', .int .i64 b', .int .i64 c'] 95)) (.cells #[.int .i64 d', .int .i64 e', .int .i64 f'] 95))
  have g4 := Lib.hid (blk_new1 w4 (.cells #[.int .i64 a', .int .i64 b', .int .i64 c'] 95) (.cells #[.int .i64 d', .int .i64 e', .int .i64 f'] 95))
  replace hA : Hid (Below w.heap.size w ((w4.alloc (.cells #[.int .i64 a', .int .i64 b', .int .i64 c'] 95)).alloc (.cells #[.int .i64 d', .int .i64 e', .int .i64 f'] 95))) := Lib.hid (Buf.then_ (Buf.then_ (Buf.then_ hA.out hb) (new_block _)) (new_block _))
  clear hb v1 v2 v3 v4 v5 v6 V1 V2
  go_wp2_with fail
  have e0 : decide (a < a') = false := by simp; omega
  have f0 : decide (d' < d) = true := by simp; omega
  go_loopw [28] (fun i wr => ∃ k : Nat, k ≤ 0 ∧ i = .int .i64 k ∧ Hid (wr.heap[w3.heap.size]? = some (.cells #[.int .i64 a, .int .i64 b, .int .i64 c] 95 (0, 0))) ∧ Hid (wr.heap[w3.heap.size + 1]? = some (.cells #[.int .i64 d, .int .i64 e, .int .i64 f] 95 (0, 0))) ∧ Hid (wr.heap[w4.heap.size]? = some (.cells #[.int .i64 a', .int .i64 b', .int .i64 c'] 95 (0, 0))) ∧ Hid (wr.heap[w4.heap.size + 1]? = some (.cells #[.int .i64 d', .int .i64 e', .int .i64 f'] 95 (0, 0))) ∧ Hid (Below w.heap.size w wr)) (fun i _ => (0 - intOf i).toNat)
  case atStart => exact ⟨0, by omega, rfl, g1, g2, g3, g4, hA⟩
  case round =>
    clear g1 g2 g3 g4 hA
    obtain ⟨k, hk, rfl, g1, g2, g3, g4, hA⟩ := hrel
    obtain ⟨bq1, bq2, bq3, _, _, _⟩ := cells3 g1.out
    obtain ⟨cq1, cq2, cq3, _, _, _⟩ := cells3 g2.out
    obtain ⟨dq1, dq2, dq3, _, _, _⟩ := cells3 g3.out
    obtain ⟨eq1, eq2, eq3, _, _, _⟩ := cells3 g4.out
    obtain rfl : k = 0 := by omega
    go_wp2_with fail
    go_quiet (fail)
    go_wp2
    go_ret
    exact ⟨rfl, Buf.below_drewN hA.out _⟩
set_option maxHeartbeats 4000000 in
set_option maxRecDepth 100000 in
theorem within_no2 (a b c d e f a' b' c' d' e' f' : Int) (h1 : BV a b c d e f) (h2 : BV a' b' c' d' e' f') (l0 : a' ≤ a) (l1 : d ≤ d') (l2 : b < b') (w : World) :
    Calls Try.prog 51 #[.agg #[.int .i64 a, .int .i64 b, .int .i64 c, .int .i64 d, .int .i64 e, .int .i64 f], .agg #[.int .i64 a', .int .i64 b', .int .i64 c', .int .i64 d', .int .i64 e', .int .i64 f']] w fun r w' => r = .returned (.bool false) ∧ Below w.heap.size w w' := by
  have V1 := Lib.hid (validBox_yes a b c d e f h1)
  have V2 := Lib.hid (validBox_yes a' b' c' d' e' f' h2)
  obtain ⟨⟨ax0, ax1, ay0, ay1, az0, az1⟩, ⟨dx0, dx1, dy0, dy1, dz0, dz1⟩, hx, hy, hz⟩ := h1
  obtain ⟨⟨ax0', ax1', ay0', ay1', az0', az1'⟩, ⟨dx0', dx1', dy0', dy1', dz0', dz1'⟩, hx', hy', hz'⟩ := h2
  have p1 := Lib.hid (blk_alloc (blk_new w (.cells #[.int .i64 a, .int .i64 b, .int .i64 c, .int .i64 d, .int .i64 e, .int .i64 f] 26)) (.cells #[.int .i64 a', .int .i64 b', .int .i64 c', .int .i64 d', .int .i64 e', .int .i64 f'] 26))
  have p2 := Lib.hid (blk_new1 w (.cells #[.int .i64 a, .int .i64 b, .int .i64 c, .int .i64 d, .int .i64 e, .int .i64 f] 26) (.cells #[.int .i64 a', .int .i64 b', .int .i64 c', .int .i64 d', .int .i64 e', .int .i64 f'] 26))
  have hA : Hid (Below w.heap.size w ((w.alloc (.cells #[.int .i64 a, .int .i64 b, .int .i64 c, .int .i64 d, .int .i64 e, .int .i64 f] 26)).alloc (.cells #[.int .i64 a', .int .i64 b', .int .i64 c', .int .i64 d', .int .i64 e', .int .i64 f'] 26))) := Lib.hid (Buf.then_ (new_block _) (new_block _))
  go_enter Try.func51, Try.ntmps51
  go_wp2_with fail
  with_reducible refine (V1.out _).mono ?_
  rintro r w1 ⟨rfl, hb⟩
  replace p1 := Lib.hid (blk_b hb p1.out)
  replace p2 := Lib.hid (blk_b hb p2.out)
  replace hA := Lib.hid (Buf.then_ hA.out hb)
  clear hb
  obtain ⟨u1, u2, u3, u4, u5, u6⟩ := cells6 p1.out
  obtain ⟨v1, v2, v3, v4, v5, v6⟩ := cells6 p2.out
  go_wp2_with fail
  with_reducible refine (V2.out _).mono ?_
  rintro r w2 ⟨rfl, hb⟩
  replace p1 := Lib.hid (blk_b hb p1.out)
  replace p2 := Lib.hid (blk_b hb p2.out)
  replace hA := Lib.hid (Buf.then_ hA.out hb)
  clear hb u1 u2 u3 u4 u5 u6 v1 v2 v3 v4 v5 v6
  obtain ⟨u1, u2, u3, u4, u5, u6⟩ := cells6 p1.out
  go_wp2_with fail
  refine (ends_any a b c d e f _).mono ?_
  rintro r w3 ⟨rfl, hb⟩
  replace p1 := Lib.hid (blk_alloc (blk_alloc (blk_b hb p1.out) (.cells #[.int .i64 a, .int .i64 b, .int .i64 c] 95)) (.cells #[.int .i64 d, .int .i64 e, .int .i64 f] 95))
  replace p2 := Lib.hid (blk_alloc (blk_alloc (blk_b hb p2.out) (.cells #[.int .i64 a, .int .i64 b, .int .i64 c] 95)) (.cells #[.int .i64 d, .int .i64 e, .int .i64 f] 95))
  have g1 := Lib.hid (blk_alloc (blk_new w3 (.cells #[.int .i64 a, .int .i64 b, .int .i64 c] 95)) (.cells #[.int .i64 d, .int .i64 e, .int .i64 f] 95))
  have g2 := Lib.hid (blk_new1 w3 (.cells #[.int .i64 a, .int .i64 b, .int .i64 c] 95) (.cells #[.int .i64 d, .int .i64 e, .int .i64 f] 95))
  replace hA : Hid (Below w.heap.size w ((w3.alloc (.cells #[.int .i64 a, .int .i64 b, .int .i64 c] 95)).alloc (.cells #[.int .i64 d, .int .i64 e, .int .i64 f] 95))) := Lib.hid (Buf.then_ (Buf.then_ (Buf.then_ hA.out hb) (new_block _)) (new_block _))
  clear hb u1 u2 u3 u4 u5 u6
  obtain ⟨v1, v2, v3, v4, v5, v6⟩ := cells6 p2.out
  go_wp2_with fail
  refine (ends_any a' b' c' d' e' f' _).mono ?_
  rintro r w4 ⟨rfl, hb⟩
  replace p1 := Lib.hid (blk_alloc (blk_alloc (blk_b hb p1.out) (.cells #[.int .i64 a', .int .i64 b', .int .i64 c'] 95)) (.cells #[.int .i64 d', .int .i64 e', .int .i64 f'] 95))
  replace p2 := Lib.hid (blk_alloc (blk_alloc (blk_b hb p2.out) (.cells #[.int .i64 a', .int .i64 b', .int .i64 c'] 95)) (.cells #[.int .i64 d', .int .i64 e', .int .i64 f'] 95))
  replace g1 := Lib.hid (blk_alloc (blk_alloc (blk_b hb g1.out) (.cells #[.int .i64 a', .int .i64 b', .int .i64 c'] 95)) (.cells #[.int .i64 d', .int .i64 e', .int .i64 f'] 95))
  replace g2 := Lib.hid (blk_alloc (blk_alloc (blk_b hb g2.out) (.cells #[.int .i64 a', .int .i64 b', .int .i64 c'] 95)) (.cells #[.int .i64 d', .int .i64 e', .int .i64 f'] 95))
  have g3 := Lib.hid (blk_alloc (blk_new w4 (.cells #[.int .i64 a', .int .i64 b', .int .i64 c'] 95)) (.cells #[.int .i64 d', .int .i64 e', .int .i64 f'] 95))
  have g4 := Lib.hid (blk_new1 w4 (.cells #[.int .i64 a', .int .i64 b', .int .i64 c'] 95) (.cells #[.int .i64 d', .int .i64 e', .int .i64 f'] 95))
  replace hA : Hid (Below w.heap.size w ((w4.alloc (.cells #[.int .i64 a', .int .i64 b', .int .i64 c'] 95)).alloc (.cells #[.int .i64 d', .int .i64 e', .int .i64 f'] 95))) := Lib.hid (Buf.then_ (Buf.then_ (Buf.then_ hA.out hb) (new_block _)) (new_block _))
  clear hb v1 v2 v3 v4 v5 v6 V1 V2
  go_wp2_with fail
  have e0 : decide (a < a') = false := by simp; omega
  have f0 : decide (d' < d) = false := by simp; omega
  have e1 : decide (b < b') = true := by simp; omega
  go_loopw [28] (fun i wr => ∃ k : Nat, k ≤ 1 ∧ i = .int .i64 k ∧ Hid (wr.heap[w3.heap.size]? = some (.cells #[.int .i64 a, .int .i64 b, .int .i64 c] 95 (0, 0))) ∧ Hid (wr.heap[w3.heap.size + 1]? = some (.cells #[.int .i64 d, .int .i64 e, .int .i64 f] 95 (0, 0))) ∧ Hid (wr.heap[w4.heap.size]? = some (.cells #[.int .i64 a', .int .i64 b', .int .i64 c'] 95 (0, 0))) ∧ Hid (wr.heap[w4.heap.size + 1]? = some (.cells #[.int .i64 d', .int .i64 e', .int .i64 f'] 95 (0, 0))) ∧ Hid (Below w.heap.size w wr)) (fun i _ => (1 - intOf i).toNat)
  case atStart => exact ⟨0, by omega, rfl, g1, g2, g3, g4, hA⟩
  case round =>
    clear g1 g2 g3 g4 hA
    obtain ⟨k, hk, rfl, g1, g2, g3, g4, hA⟩ := hrel
    obtain ⟨bq1, bq2, bq3, _, _, _⟩ := cells3 g1.out
    obtain ⟨cq1, cq2, cq3, _, _, _⟩ := cells3 g2.out
    obtain ⟨dq1, dq2, dq3, _, _, _⟩ := cells3 g3.out
    obtain ⟨eq1, eq2, eq3, _, _, _⟩ := cells3 g4.out
    by_cases h0 : k = 0
    · subst h0
      go_wp2_with fail
      go_quiet (fail)
      go_wp2
      go_roundw
      case rel => exact ⟨1, by omega, rfl, g1, g2, g3, g4, Lib.hid (Buf.below_drewN hA.out _)⟩
      case measure => simp [intOf]
    obtain rfl : k = 1 := by omega
    go_wp2_with fail
    go_quiet (fail)
    go_wp2
    go_ret
    exact ⟨rfl, Buf.below_drewN hA.out _⟩
set_option maxHeartbeats 4000000 in
set_option maxRecDepth 100000 in
theorem within_no3 (a b c d e f a' b' c' d' e' f' : Int) (h1 : BV a b c d e f) (h2 : BV a' b' c' d' e' f') (l0 : a' ≤ a) (l1 : d ≤ d') (l2 : b' ≤ b) (l3 : e' < e) (w : World) :
    Calls Try.prog 51 #[.agg #[.int .i64 a, .int .i64 b, .int .i64 c, .int .i64 d, .int .i64 e, .int .i64 f], .agg #[.int .i64 a', .int .i64 b', .int .i64 c', .int .i64 d', .int .i64 e', .int .i64 f']] w fun r w' => r = .returned (.bool false) ∧ Below w.heap.size w w' := by
  have V1 := Lib.hid (validBox_yes a b c d e f h1)
  have V2 := Lib.hid (validBox_yes a' b' c' d' e' f' h2)
  obtain ⟨⟨ax0, ax1, ay0, ay1, az0, az1⟩, ⟨dx0, dx1, dy0, dy1, dz0, dz1⟩, hx, hy, hz⟩ := h1
  obtain ⟨⟨ax0', ax1', ay0', ay1', az0', az1'⟩, ⟨dx0', dx1', dy0', dy1', dz0', dz1'⟩, hx', hy', hz'⟩ := h2
  have p1 := Lib.hid (blk_alloc (blk_new w (.cells #[.int .i64 a, .int .i64 b, .int .i64 c, .int .i64 d, .int .i64 e, .int .i64 f] 26)) (.cells #[.int .i64 a', .int .i64 b', .int .i64 c', .int .i64 d', .int .i64 e', .int .i64 f'] 26))
  have p2 := Lib.hid (blk_new1 w (.cells #[.int .i64 a, .int .i64 b, .int .i64 c, .int .i64 d, .int .i64 e, .int .i64 f] 26) (.cells #[.int .i64 a', .int .i64 b', .int .i64 c', .int .i64 d', .int .i64 e', .int .i64 f'] 26))
  have hA : Hid (Below w.heap.size w ((w.alloc (.cells #[.int .i64 a, .int .i64 b, .int .i64 c, .int .i64 d, .int .i64 e, .int .i64 f] 26)).alloc (.cells #[.int .i64 a', .int .i64 b', .int .i64 c', .int .i64 d', .int .i64 e', .int .i64 f'] 26))) := Lib.hid (Buf.then_ (new_block _) (new_block _))
  go_enter Try.func51, Try.ntmps51
  go_wp2_with fail
  with_reducible refine (V1.out _).mono ?_
  rintro r w1 ⟨rfl, hb⟩
  replace p1 := Lib.hid (blk_b hb p1.out)
  replace p2 := Lib.hid (blk_b hb p2.out)
  replace hA := Lib.hid (Buf.then_ hA.out hb)
  clear hb
  obtain ⟨u1, u2, u3, u4, u5, u6⟩ := cells6 p1.out
  obtain ⟨v1, v2, v3, v4, v5, v6⟩ := cells6 p2.out
  go_wp2_with fail
  with_reducible refine (V2.out _).mono ?_
  rintro r w2 ⟨rfl, hb⟩
  replace p1 := Lib.hid (blk_b hb p1.out)
  replace p2 := Lib.hid (blk_b hb p2.out)
  replace hA := Lib.hid (Buf.then_ hA.out hb)
  clear hb u1 u2 u3 u4 u5 u6 v1 v2 v3 v4 v5 v6
  obtain ⟨u1, u2, u3, u4, u5, u6⟩ := cells6 p1.out
  go_wp2_with fail
  refine (ends_any a b c d e f _).mono ?_
  rintro r w3 ⟨rfl, hb⟩
  replace p1 := Lib.hid (blk_alloc (blk_alloc (blk_b hb p1.out) (.cells #[.int .i64 a, .int .i64 b, .int .i64 c] 95)) (.cells #[.int .i64 d, .int .i64 e, .int .i64 f] 95))
  replace p2 := Lib.hid (blk_alloc (blk_alloc (blk_b hb p2.out) (.cells #[.int .i64 a, .int .i64 b, .int .i64 c] 95)) (.cells #[.int .i64 d, .int .i64 e, .int .i64 f] 95))
  have g1 := Lib.hid (blk_alloc (blk_new w3 (.cells #[.int .i64 a, .int .i64 b, .int .i64 c] 95)) (.cells #[.int .i64 d, .int .i64 e, .int .i64 f] 95))
  have g2 := Lib.hid (blk_new1 w3 (.cells #[.int .i64 a, .int .i64 b, .int .i64 c] 95) (.cells #[.int .i64 d, .int .i64 e, .int .i64 f] 95))
  replace hA : Hid (Below w.heap.size w ((w3.alloc (.cells #[.int .i64 a, .int .i64 b, .int .i64 c] 95)).alloc (.cells #[.int .i64 d, .int .i64 e, .int .i64 f] 95))) := Lib.hid (Buf.then_ (Buf.then_ (Buf.then_ hA.out hb) (new_block _)) (new_block _))
  clear hb u1 u2 u3 u4 u5 u6
  obtain ⟨v1, v2, v3, v4, v5, v6⟩ := cells6 p2.out
  go_wp2_with fail
  refine (ends_any a' b' c' d' e' f' _).mono ?_
  rintro r w4 ⟨rfl, hb⟩
  replace p1 := Lib.hid (blk_alloc (blk_alloc (blk_b hb p1.out) (.cells #[.int .i64 a', .int .i64 b', .int .i64 c'] 95)) (.cells #[.int .i64 d', .int .i64 e', .int .i64 f'] 95))
  replace p2 := Lib.hid (blk_alloc (blk_alloc (blk_b hb p2.out) (.cells #[.int .i64 a', .int .i64 b', .int .i64 c'] 95)) (.cells #[.int .i64 d', .int .i64 e', .int .i64 f'] 95))
  replace g1 := Lib.hid (blk_alloc (blk_alloc (blk_b hb g1.out) (.cells #[.int .i64 a', .int .i64 b', .int .i64 c'] 95)) (.cells #[.int .i64 d', .int .i64 e', .int .i64 f'] 95))
  replace g2 := Lib.hid (blk_alloc (blk_alloc (blk_b hb g2.out) (.cells #[.int .i64 a', .int .i64 b', .int .i64 c'] 95)) (.cells #[.int .i64 d', .int .i64 e', .int .i64 f'] 95))
  have g3 := Lib.hid (blk_alloc (blk_new w4 (.cells #[.int .i64 a', .int .i64 b', .int .i64 c'] 95)) (.cells #[.int .i64 d', .int .i64 e', .int .i64 f'] 95))
  have g4 := Lib.hid (blk_new1 w4 (.cells #[.int .i64 a', .int .i64 b', .int .i64 c'] 95) (.cells #[.int .i64 d', .int .i64 e', .int .i64 f'] 95))
  replace hA : Hid (Below w.heap.size w ((w4.alloc (.cells #[.int .i64 a', .int .i64 b', .int .i64 c'] 95)).alloc (.cells #[.int .i64 d', .int .i64 e', .int .i64 f'] 95))) := Lib.hid (Buf.then_ (Buf.then_ (Buf.then_ hA.out hb) (new_block _)) (new_block _))
  clear hb v1 v2 v3 v4 v5 v6 V1 V2
  go_wp2_with fail
  have e0 : decide (a < a') = false := by simp; omega
  have f0 : decide (d' < d) = false := by simp; omega
  have e1 : decide (b < b') = false := by simp; omega
  have f1 : decide (e' < e) = true := by simp; omega
  go_loopw [28] (fun i wr => ∃ k : Nat, k ≤ 1 ∧ i = .int .i64 k ∧ Hid (wr.heap[w3.heap.size]? = some (.cells #[.int .i64 a, .int .i64 b, .int .i64 c] 95 (0, 0))) ∧ Hid (wr.heap[w3.heap.size + 1]? = some (.cells #[.int .i64 d, .int .i64 e, .int .i64 f] 95 (0, 0))) ∧ Hid (wr.heap[w4.heap.size]? = some (.cells #[.int .i64 a', .int .i64 b', .int .i64 c'] 95 (0, 0))) ∧ Hid (wr.heap[w4.heap.size + 1]? = some (.cells #[.int .i64 d', .int .i64 e', .int .i64 f'] 95 (0, 0))) ∧ Hid (Below w.heap.size w wr)) (fun i _ => (1 - intOf i).toNat)
  case atStart => exact ⟨0, by omega, rfl, g1, g2, g3, g4, hA⟩
  case round =>
    clear g1 g2 g3 g4 hA
    obtain ⟨k, hk, rfl, g1, g2, g3, g4, hA⟩ := hrel
    obtain ⟨bq1, bq2, bq3, _, _, _⟩ := cells3 g1.out
    obtain ⟨cq1, cq2, cq3, _, _, _⟩ := cells3 g2.out
    obtain ⟨dq1, dq2, dq3, _, _, _⟩ := cells3 g3.out
    obtain ⟨eq1, eq2, eq3, _, _, _⟩ := cells3 g4.out
    by_cases h0 : k = 0
    · subst h0
      go_wp2_with fail
      go_quiet (fail)
      go_wp2
      go_roundw
      case rel => exact ⟨1, by omega, rfl, g1, g2, g3, g4, Lib.hid (Buf.below_drewN hA.out _)⟩
      case measure => simp [intOf]
    obtain rfl : k = 1 := by omega
    go_wp2_with fail
    go_quiet (fail)
    go_wp2
    go_ret
    exact ⟨rfl, Buf.below_drewN hA.out _⟩
set_option maxHeartbeats 4000000 in
set_option maxRecDepth 100000 in
theorem within_no4 (a b c d e f a' b' c' d' e' f' : Int) (h1 : BV a b c d e f) (h2 : BV a' b' c' d' e' f') (l0 : a' ≤ a) (l1 : d ≤ d') (l2 : b' ≤ b) (l3 : e ≤ e') (l4 : c < c') (w : World) :
    Calls Try.prog 51 #[.agg #[.int .i64 a, .int .i64 b, .int .i64 c, .int .i64 d, .int .i64 e, .int .i64 f], .agg #[.int .i64 a', .int .i64 b', .int .i64 c', .int .i64 d', .int .i64 e', .int .i64 f']] w fun r w' => r = .returned (.bool false) ∧ Below w.heap.size w w' := by
  have V1 := Lib.hid (validBox_yes a b c d e f h1)
  have V2 := Lib.hid (validBox_yes a' b' c' d' e' f' h2)
  obtain ⟨⟨ax0, ax1, ay0, ay1, az0, az1⟩, ⟨dx0, dx1, dy0, dy1, dz0, dz1⟩, hx, hy, hz⟩ := h1
  obtain ⟨⟨ax0', ax1', ay0', ay1', az0', az1'⟩, ⟨dx0', dx1', dy0', dy1', dz0', dz1'⟩, hx', hy', hz'⟩ := h2
  have p1 := Lib.hid (blk_alloc (blk_new w (.cells #[.int .i64 a, .int .i64 b, .int .i64 c, .int .i64 d, .int .i64 e, .int .i64 f] 26)) (.cells #[.int .i64 a', .int .i64 b', .int .i64 c', .int .i64 d', .int .i64 e', .int .i64 f'] 26))
  have p2 := Lib.hid (blk_new1 w (.cells #[.int .i64 a, .int .i64 b, .int .i64 c, .int .i64 d, .int .i64 e, .int .i64 f] 26) (.cells #[.int .i64 a', .int .i64 b', .int .i64 c', .int .i64 d', .int .i64 e', .int .i64 f'] 26))
  have hA : Hid (Below w.heap.size w ((w.alloc (.cells #[.int .i64 a, .int .i64 b, .int .i64 c, .int .i64 d, .int .i64 e, .int .i64 f] 26)).alloc (.cells #[.int .i64 a', .int .i64 b', .int .i64 c', .int .i64 d', .int .i64 e', .int .i64 f'] 26))) := Lib.hid (Buf.then_ (new_block _) (new_block _))
  go_enter Try.func51, Try.ntmps51
  go_wp2_with fail
  with_reducible refine (V1.out _).mono ?_
  rintro r w1 ⟨rfl, hb⟩
  replace p1 := Lib.hid (blk_b hb p1.out)
  replace p2 := Lib.hid (blk_b hb p2.out)
  replace hA := Lib.hid (Buf.then_ hA.out hb)
  clear hb
  obtain ⟨u1, u2, u3, u4, u5, u6⟩ := cells6 p1.out
  obtain ⟨v1, v2, v3, v4, v5, v6⟩ := cells6 p2.out
  go_wp2_with fail
  with_reducible refine (V2.out _).mono ?_
  rintro r w2 ⟨rfl, hb⟩
  replace p1 := Lib.hid (blk_b hb p1.out)
  replace p2 := Lib.hid (blk_b hb p2.out)
  replace hA := Lib.hid (Buf.then_ hA.out hb)
  clear hb u1 u2 u3 u4 u5 u6 v1 v2 v3 v4 v5 v6
  obtain ⟨u1, u2, u3, u4, u5, u6⟩ := cells6 p1.out
  go_wp2_with fail
  refine (ends_any a b c d e f _).mono ?_
  rintro r w3 ⟨rfl, hb⟩
  replace p1 := Lib.hid (blk_alloc (blk_alloc (blk_b hb p1.out) (.cells #[.int .i64 a, .int .i64 b, .int .i64 c] 95)) (.cells #[.int .i64 d, .int .i64 e, .int .i64 f] 95))
  replace p2 := Lib.hid (blk_alloc (blk_alloc (blk_b hb p2.out) (.cells #[.int .i64 a, .int .i64 b, .int .i64 c] 95)) (.cells #[.int .i64 d, .int .i64 e, .int .i64 f] 95))
  have g1 := Lib.hid (blk_alloc (blk_new w3 (.cells #[.int .i64 a, .int .i64 b, .int .i64 c] 95)) (.cells #[.int .i64 d, .int .i64 e, .int .i64 f] 95))
  have g2 := Lib.hid (blk_new1 w3 (.cells #[.int .i64 a, .int .i64 b, .int .i64 c] 95) (.cells #[.int .i64 d, .int .i64 e, .int .i64 f] 95))
  replace hA : Hid (Below w.heap.size w ((w3.alloc (.cells #[.int .i64 a, .int .i64 b, .int .i64 c] 95)).alloc (.cells #[.int .i64 d, .int .i64 e, .int .i64 f] 95))) := Lib.hid (Buf.then_ (Buf.then_ (Buf.then_ hA.out hb) (new_block _)) (new_block _))
  clear hb u1 u2 u3 u4 u5 u6
  obtain ⟨v1, v2, v3, v4, v5, v6⟩ := cells6 p2.out
  go_wp2_with fail
  refine (ends_any a' b' c' d' e' f' _).mono ?_
  rintro r w4 ⟨rfl, hb⟩
  replace p1 := Lib.hid (blk_alloc (blk_alloc (blk_b hb p1.out) (.cells #[.int .i64 a', .int .i64 b', .int .i64 c'] 95)) (.cells #[.int .i64 d', .int .i64 e', .int .i64 f'] 95))
  replace p2 := Lib.hid (blk_alloc (blk_alloc (blk_b hb p2.out) (.cells #[.int .i64 a', .int .i64 b', .int .i64 c'] 95)) (.cells #[.int .i64 d', .int .i64 e', .int .i64 f'] 95))
  replace g1 := Lib.hid (blk_alloc (blk_alloc (blk_b hb g1.out) (.cells #[.int .i64 a', .int .i64 b', .int .i64 c'] 95)) (.cells #[.int .i64 d', .int .i64 e', .int .i64 f'] 95))
  replace g2 := Lib.hid (blk_alloc (blk_alloc (blk_b hb g2.out) (.cells #[.int .i64 a', .int .i64 b', .int .i64 c'] 95)) (.cells #[.int .i64 d', .int .i64 e', .int .i64 f'] 95))
  have g3 := Lib.hid (blk_alloc (blk_new w4 (.cells #[.int .i64 a', .int .i64 b', .int .i64 c'] 95)) (.cells #[.int .i64 d', .int .i64 e', .int .i64 f'] 95))
  have g4 := Lib.hid (blk_new1 w4 (.cells #[.int .i64 a', .int .i64 b', .int .i64 c'] 95) (.cells #[.int .i64 d', .int .i64 e', .int .i64 f'] 95))
  replace hA : Hid (Below w.heap.size w ((w4.alloc (.cells #[.int .i64 a', .int .i64 b', .int .i64 c'] 95)).alloc (.cells #[.int .i64 d', .int .i64 e', .int .i64 f'] 95))) := Lib.hid (Buf.then_ (Buf.then_ (Buf.then_ hA.out hb) (new_block _)) (new_block _))
  clear hb v1 v2 v3 v4 v5 v6 V1 V2
  go_wp2_with fail
  have e0 : decide (a < a') = false := by simp; omega
  have f0 : decide (d' < d) = false := by simp; omega
  have e1 : decide (b < b') = false := by simp; omega
  have f1 : decide (e' < e) = false := by simp; omega
  have e2 : decide (c < c') = true := by simp; omega
  go_loopw [28] (fun i wr => ∃ k : Nat, k ≤ 2 ∧ i = .int .i64 k ∧ Hid (wr.heap[w3.heap.size]? = some (.cells #[.int .i64 a, .int .i64 b, .int .i64 c] 95 (0, 0))) ∧ Hid (wr.heap[w3.heap.size + 1]? = some (.cells #[.int .i64 d, .int .i64 e, .int .i64 f] 95 (0, 0))) ∧ Hid (wr.heap[w4.heap.size]? = some (.cells #[.int .i64 a', .int .i64 b', .int .i64 c'] 95 (0, 0))) ∧ Hid (wr.heap[w4.heap.size + 1]? = some (.cells #[.int .i64 d', .int .i64 e', .int .i64 f'] 95 (0, 0))) ∧ Hid (Below w.heap.size w wr)) (fun i _ => (2 - intOf i).toNat)
  case atStart => exact ⟨0, by omega, rfl, g1, g2, g3, g4, hA⟩
  case round =>
    clear g1 g2 g3 g4 hA
    obtain ⟨k, hk, rfl, g1, g2, g3, g4, hA⟩ := hrel
    obtain ⟨bq1, bq2, bq3, _, _, _⟩ := cells3 g1.out
    obtain ⟨cq1, cq2, cq3, _, _, _⟩ := cells3 g2.out
    obtain ⟨dq1, dq2, dq3, _, _, _⟩ := cells3 g3.out
    obtain ⟨eq1, eq2, eq3, _, _, _⟩ := cells3 g4.out
    by_cases h0 : k = 0
    · subst h0
      go_wp2_with fail
      go_quiet (fail)
      go_wp2
      go_roundw
      case rel => exact ⟨1, by omega, rfl, g1, g2, g3, g4, Lib.hid (Buf.below_drewN hA.out _)⟩
      case measure => simp [intOf]
    by_cases h1 : k = 1
    · subst h1
      go_wp2_with fail
      go_quiet (fail)
      go_wp2
      go_roundw
      case rel => exact ⟨2, by omega, rfl, g1, g2, g3, g4, Lib.hid (Buf.below_drewN hA.out _)⟩
      case measure => simp [intOf]
    obtain rfl : k = 2 := by omega
    go_wp2_with fail
    go_quiet (fail)
    go_wp2
    go_ret
    exact ⟨rfl, Buf.below_drewN hA.out _⟩
set_option maxHeartbeats 4000000 in
set_option maxRecDepth 100000 in
theorem within_no5 (a b c d e f a' b' c' d' e' f' : Int) (h1 : BV a b c d e f) (h2 : BV a' b' c' d' e' f') (l0 : a' ≤ a) (l1 : d ≤ d') (l2 : b' ≤ b) (l3 : e ≤ e') (l4 : c' ≤ c) (l5 : f' < f) (w : World) :
    Calls Try.prog 51 #[.agg #[.int .i64 a, .int .i64 b, .int .i64 c, .int .i64 d, .int .i64 e, .int .i64 f], .agg #[.int .i64 a', .int .i64 b', .int .i64 c', .int .i64 d', .int .i64 e', .int .i64 f']] w fun r w' => r = .returned (.bool false) ∧ Below w.heap.size w w' := by
  have V1 := Lib.hid (validBox_yes a b c d e f h1)
  have V2 := Lib.hid (validBox_yes a' b' c' d' e' f' h2)
  obtain ⟨⟨ax0, ax1, ay0, ay1, az0, az1⟩, ⟨dx0, dx1, dy0, dy1, dz0, dz1⟩, hx, hy, hz⟩ := h1
  obtain ⟨⟨ax0', ax1', ay0', ay1', az0', az1'⟩, ⟨dx0', dx1', dy0', dy1', dz0', dz1'⟩, hx', hy', hz'⟩ := h2
  have p1 := Lib.hid (blk_alloc (blk_new w (.cells #[.int .i64 a, .int .i64 b, .int .i64 c, .int .i64 d, .int .i64 e, .int .i64 f] 26)) (.cells #[.int .i64 a', .int .i64 b', .int .i64 c', .int .i64 d', .int .i64 e', .int .i64 f'] 26))
  have p2 := Lib.hid (blk_new1 w (.cells #[.int .i64 a, .int .i64 b, .int .i64 c, .int .i64 d, .int .i64 e, .int .i64 f] 26) (.cells #[.int .i64 a', .int .i64 b', .int .i64 c', .int .i64 d', .int .i64 e', .int .i64 f'] 26))
  have hA : Hid (Below w.heap.size w ((w.alloc (.cells #[.int .i64 a, .int .i64 b, .int .i64 c, .int .i64 d, .int .i64 e, .int .i64 f] 26)).alloc (.cells #[.int .i64 a', .int .i64 b', .int .i64 c', .int .i64 d', .int .i64 e', .int .i64 f'] 26))) := Lib.hid (Buf.then_ (new_block _) (new_block _))
  go_enter Try.func51, Try.ntmps51
  go_wp2_with fail
  with_reducible refine (V1.out _).mono ?_
  rintro r w1 ⟨rfl, hb⟩
  replace p1 := Lib.hid (blk_b hb p1.out)
  replace p2 := Lib.hid (blk_b hb p2.out)
  replace hA := Lib.hid (Buf.then_ hA.out hb)
  clear hb
  obtain ⟨u1, u2, u3, u4, u5, u6⟩ := cells6 p1.out
  obtain ⟨v1, v2, v3, v4, v5, v6⟩ := cells6 p2.out
  go_wp2_with fail
  with_reducible refine (V2.out _).mono ?_
  rintro r w2 ⟨rfl, hb⟩
  replace p1 := Lib.hid (blk_b hb p1.out)
  replace p2 := Lib.hid (blk_b hb p2.out)
  replace hA := Lib.hid (Buf.then_ hA.out hb)
  clear hb u1 u2 u3 u4 u5 u6 v1 v2 v3 v4 v5 v6
  obtain ⟨u1, u2, u3, u4, u5, u6⟩ := cells6 p1.out
  go_wp2_with fail
  refine (ends_any a b c d e f _).mono ?_
  rintro r w3 ⟨rfl, hb⟩
  replace p1 := Lib.hid (blk_alloc (blk_alloc (blk_b hb p1.out) (.cells #[.int .i64 a, .int .i64 b, .int .i64 c] 95)) (.cells #[.int .i64 d, .int .i64 e, .int .i64 f] 95))
  replace p2 := Lib.hid (blk_alloc (blk_alloc (blk_b hb p2.out) (.cells #[.int .i64 a, .int .i64 b, .int .i64 c] 95)) (.cells #[.int .i64 d, .int .i64 e, .int .i64 f] 95))
  have g1 := Lib.hid (blk_alloc (blk_new w3 (.cells #[.int .i64 a, .int .i64 b, .int .i64 c] 95)) (.cells #[.int .i64 d, .int .i64 e, .int .i64 f] 95))
  have g2 := Lib.hid (blk_new1 w3 (.cells #[.int .i64 a, .int .i64 b, .int .i64 c] 95) (.cells #[.int .i64 d, .int .i64 e, .int .i64 f] 95))
  replace hA : Hid (Below w.heap.size w ((w3.alloc (.cells #[.int .i64 a, .int .i64 b, .int .i64 c] 95)).alloc (.cells #[.int .i64 d, .int .i64 e, .int .i64 f] 95))) := Lib.hid (Buf.then_ (Buf.then_ (Buf.then_ hA.out hb) (new_block _)) (new_block _))
  clear hb u1 u2 u3 u4 u5 u6
  obtain ⟨v1, v2, v3, v4, v5, v6⟩ := cells6 p2.out
  go_wp2_with fail
  refine (ends_any a' b' c' d' e' f' _).mono ?_
  rintro r w4 ⟨rfl, hb⟩
  replace p1 := Lib.hid (blk_alloc (blk_alloc (blk_b hb p1.out) (.cells #[.int .i64 a', .int .i64 b', .int .i64 c'] 95)) (.cells #[.int .i64 d', .int .i64 e', .int .i64 f'] 95))
  replace p2 := Lib.hid (blk_alloc (blk_alloc (blk_b hb p2.out) (.cells #[.int .i64 a', .int .i64 b', .int .i64 c'] 95)) (.cells #[.int .i64 d', .int .i64 e', .int .i64 f'] 95))
  replace g1 := Lib.hid (blk_alloc (blk_alloc (blk_b hb g1.out) (.cells #[.int .i64 a', .int .i64 b', .int .i64 c'] 95)) (.cells #[.int .i64 d', .int .i64 e', .int .i64 f'] 95))
  replace g2 := Lib.hid (blk_alloc (blk_alloc (blk_b hb g2.out) (.cells #[.int .i64 a', .int .i64 b', .int .i64 c'] 95)) (.cells #[.int .i64 d', .int .i64 e', .int .i64 f'] 95))
  have g3 := Lib.hid (blk_alloc (blk_new w4 (.cells #[.int .i64 a', .int .i64 b', .int .i64 c'] 95)) (.cells #[.int .i64 d', .int .i64 e', .int .i64 f'] 95))
  have g4 := Lib.hid (blk_new1 w4 (.cells #[.int .i64 a', .int .i64 b', .int .i64 c'] 95) (.cells #[.int .i64 d', .int .i64 e', .int .i64 f'] 95))
  replace hA : Hid (Below w.heap.size w ((w4.alloc (.cells #[.int .i64 a', .int .i64 b', .int .i64 c'] 95)).alloc (.cells #[.int .i64 d', .int .i64 e', .int .i64 f'] 95))) := Lib.hid (Buf.then_ (Buf.then_ (Buf.then_ hA.out hb) (new_block _)) (new_block _))
  clear hb v1 v2 v3 v4 v5 v6 V1 V2
  go_wp2_with fail
  have e0 : decide (a < a') = false := by simp; omega
  have f0 : decide (d' < d) = false := by simp; omega
  have e1 : decide (b < b') = false := by simp; omega
  have f1 : decide (e' < e) = false := by simp; omega
  have e2 : decide (c < c') = false := by simp; omega
  have f2 : decide (f' < f) = true := by simp; omega
  go_loopw [28] (fun i wr => ∃ k : Nat, k ≤ 2 ∧ i = .int .i64 k ∧ Hid (wr.heap[w3.heap.size]? = some (.cells #[.int .i64 a, .int .i64 b, .int .i64 c] 95 (0, 0))) ∧ Hid (wr.heap[w3.heap.size + 1]? = some (.cells #[.int .i64 d, .int .i64 e, .int .i64 f] 95 (0, 0))) ∧ Hid (wr.heap[w4.heap.size]? = some (.cells #[.int .i64 a', .int .i64 b', .int .i64 c'] 95 (0, 0))) ∧ Hid (wr.heap[w4.heap.size + 1]? = some (.cells #[.int .i64 d', .int .i64 e', .int .i64 f'] 95 (0, 0))) ∧ Hid (Below w.heap.size w wr)) (fun i _ => (2 - intOf i).toNat)
  case atStart => exact ⟨0, by omega, rfl, g1, g2, g3, g4, hA⟩
  case round =>
    clear g1 g2 g3 g4 hA
    obtain ⟨k, hk, rfl, g1, g2, g3, g4, hA⟩ := hrel
    obtain ⟨bq1, bq2, bq3, _, _, _⟩ := cells3 g1.out
    obtain ⟨cq1, cq2, cq3, _, _, _⟩ := cells3 g2.out
    obtain ⟨dq1, dq2, dq3, _, _, _⟩ := cells3 g3.out
    obtain ⟨eq1, eq2, eq3, _, _, _⟩ := cells3 g4.out
    by_cases h0 : k = 0
    · subst h0
      go_wp2_with fail
      go_quiet (fail)
      go_wp2
      go_roundw
      case rel => exact ⟨1, by omega, rfl, g1, g2, g3, g4, Lib.hid (Buf.below_drewN hA.out _)⟩
      case measure => simp [intOf]
    by_cases h1 : k = 1
    · subst h1
      go_wp2_with fail
      go_quiet (fail)
      go_wp2
      go_roundw
      case rel => exact ⟨2, by omega, rfl, g1, g2, g3, g4, Lib.hid (Buf.below_drewN hA.out _)⟩
      case measure => simp [intOf]
    obtain rfl : k = 2 := by omega
    go_wp2_with fail
    go_quiet (fail)
    go_wp2
    go_ret
    exact ⟨rfl, Buf.below_drewN hA.out _⟩
theorem within_any (a b c d e f a' b' c' d' e' f' : Int) (h1 : BV a b c d e f) (h2 : BV a' b' c' d' e' f') (w : World) :
    Calls Try.prog 51 #[.agg #[.int .i64 a, .int .i64 b, .int .i64 c, .int .i64 d, .int .i64 e, .int .i64 f], .agg #[.int .i64 a', .int .i64 b', .int .i64 c', .int .i64 d', .int .i64 e', .int .i64 f']] w fun r w' => r = .returned (.bool (wiB a b c d e f a' b' c' d' e' f')) ∧ Below w.heap.size w w' := by
  cases h : wiB a b c d e f a' b' c' d' e' f' with
  | true => exact within_yes _ _ _ _ _ _ _ _ _ _ _ _ h1 h2 (by simpa [wiB] using h) w
  | false =>
    rcases wiB_no h with l0 | ⟨l0, l1⟩ | ⟨l0, l1, l2⟩ | ⟨l0, l1, l2, l3⟩ | ⟨l0, l1, l2, l3, l4⟩ | ⟨l0, l1, l2, l3, l4, l5⟩
    · exact within_no0 _ _ _ _ _ _ _ _ _ _ _ _ h1 h2 l0 w
    · exact within_no1 _ _ _ _ _ _ _ _ _ _ _ _ h1 h2 l0 l1 w
    · exact within_no2 _ _ _ _ _ _ _ _ _ _ _ _ h1 h2 l0 l1 l2 w
    · exact within_no3 _ _ _ _ _ _ _ _ _ _ _ _ h1 h2 l0 l1 l2 l3 w
    · exact within_no4 _ _ _ _ _ _ _ _ _ _ _ _ h1 h2 l0 l1 l2 l3 l4 w
    · exact within_no5 _ _ _ _ _ _ _ _ _ _ _ _ h1 h2 l0 l1 l2 l3 l4 l5 w
end Geo
end Go.Proofs.Ytldgihlhioeipaa
