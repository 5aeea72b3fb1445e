/- The halves of a box. -/
import Derived.Test.YtldgihlhioeipaaGeoP
namespace Go.Proofs.Ytldgihlhioeipaa
open Go.RowKit
namespace Geo
theorem pts_one {a b c d e f : Int} (h : BV a b c d e f) (h1 : pts a b c d e f < 2) : a = d ∧ b = e ∧ c = f := by
  obtain ⟨_, _, hx, hy, hz⟩ := h
  unfold pts at h1
  have k0 : 1 * 1 ≤ (d - a + 1) * (e - b + 1) := Int.mul_le_mul (by omega) (by omega) (by omega) (by omega)
  refine ⟨Classical.byContradiction fun n => ?_, Classical.byContradiction fun n => ?_, Classical.byContradiction fun n => ?_⟩
  · have k1 : 2 * 1 ≤ (d - a + 1) * (e - b + 1) := Int.mul_le_mul (by omega) (by omega) (by omega) (by omega)
    have k2 : 2 * 1 ≤ (d - a + 1) * (e - b + 1) * (f - c + 1) := Int.mul_le_mul (by omega) (by omega) (by omega) (by omega)
    omega
  · have k1 : 1 * 2 ≤ (d - a + 1) * (e - b + 1) := Int.mul_le_mul (by omega) (by omega) (by omega) (by omega)
    have k2 : 2 * 1 ≤ (d - a + 1) * (e - b + 1) * (f - c + 1) := Int.mul_le_mul (by omega) (by omega) (by omega) (by omega)
    omega
  · have k2 : 1 * 2 ≤ (d - a + 1) * (e - b + 1) * (f - c + 1) := Int.mul_le_mul (by omega) (by omega) (by omega) (by omega)
    omega
theorem pts_self (a b c : Int) : pts a b c a b c = 1 := by unfold pts; simp
/-- Two boxes are the halves of a box. -/
structure Halves (a b c d e f x1 x2 x3 x4 x5 x6 y1 y2 y3 y4 y5 y6 : Int) : Prop where
  bx : BV x1 x2 x3 x4 x5 x6
  bY : BV y1 y2 y3 y4 y5 y6
  wx : a ≤ x1 ∧ x4 ≤ d ∧ b ≤ x2 ∧ x5 ≤ e ∧ c ≤ x3 ∧ x6 ≤ f
  wy : a ≤ y1 ∧ y4 ≤ d ∧ b ≤ y2 ∧ y5 ≤ e ∧ c ≤ y3 ∧ y6 ≤ f
  cen : x1 ≤ a + (d - a) / 2 ∧ a + (d - a) / 2 ≤ x4 ∧ x2 ≤ b + (e - b) / 2 ∧ b + (e - b) / 2 ≤ x5 ∧ x3 ≤ c + (f - c) / 2 ∧ c + (f - c) / 2 ≤ x6
  num : pts x1 x2 x3 x4 x5 x6 + pts y1 y2 y3 y4 y5 y6 = pts a b c d e f
  hull : min x1 y1 = a ∧ min x2 y2 = b ∧ min x3 y3 = c ∧ max x4 y4 = d ∧ max x5 y5 = e ∧ max x6 y6 = f
  part : ∀ p q r : Int, a ≤ p → p ≤ d → b ≤ q → q ≤ e → c ≤ r → r ≤ f → wiB p q r p q r x1 x2 x3 x4 x5 x6 = !wiB p q r p q r y1 y2 y3 y4 y5 y6
theorem wiB_pt (p q r x1 x2 x3 x4 x5 x6 : Int) : wiB p q r p q r x1 x2 x3 x4 x5 x6 = decide (x1 ≤ p ∧ p ≤ x4 ∧ x2 ≤ q ∧ q ≤ x5 ∧ x3 ≤ r ∧ r ≤ x6) := rfl
theorem halves_0 {a b c d e f : Int} (h : BV a b c d e f) (hs : a < d) : Halves a b c d e f a b c (a + (d - a) / 2) e f ((a + (d - a) / 2) + 1) b c d e f := by
  obtain ⟨⟨ax0, ax1, ay0, ay1, az0, az1⟩, ⟨dx0, dx1, dy0, dy1, dz0, dz1⟩, hx, hy, hz⟩ := h
  refine ⟨⟨⟨?_, ?_, ?_, ?_, ?_, ?_⟩, ⟨?_, ?_, ?_, ?_, ?_, ?_⟩, ?_, ?_, ?_⟩, ⟨⟨?_, ?_, ?_, ?_, ?_, ?_⟩, ⟨?_, ?_, ?_, ?_, ?_, ?_⟩, ?_, ?_, ?_⟩, ⟨?_, ?_, ?_, ?_, ?_, ?_⟩, ⟨?_, ?_, ?_, ?_, ?_, ?_⟩, ⟨?_, ?_, ?_, ?_, ?_, ?_⟩, ?_, ⟨?_, ?_, ?_, ?_, ?_, ?_⟩, ?_⟩
  all_goals first
    | omega
    | (unfold pts; generalize (a + (d - a) / 2) = M; grind)
    | (intro p q r k1 k2 k3 k4 k5 k6
       rw [wiB_pt, wiB_pt, ← decide_not]
       exact decide_eq_decide.2 (by omega))
theorem halves_1 {a b c d e f : Int} (h : BV a b c d e f) (hs : b < e) : Halves a b c d e f a b c d (b + (e - b) / 2) f a ((b + (e - b) / 2) + 1) c d e f := by
  obtain ⟨⟨ax0, ax1, ay0, ay1, az0, az1⟩, ⟨dx0, dx1, dy0, dy1, dz0, dz1⟩, hx, hy, hz⟩ := h
  refine ⟨⟨⟨?_, ?_, ?_, ?_, ?_, ?_⟩, ⟨?_, ?_, ?_, ?_, ?_, ?_⟩, ?_, ?_, ?_⟩, ⟨⟨?_, ?_, ?_, ?_, ?_, ?_⟩, ⟨?_, ?_, ?_, ?_, ?_, ?_⟩, ?_, ?_, ?_⟩, ⟨?_, ?_, ?_, ?_, ?_, ?_⟩, ⟨?_, ?_, ?_, ?_, ?_, ?_⟩, ⟨?_, ?_, ?_, ?_, ?_, ?_⟩, ?_, ⟨?_, ?_, ?_, ?_, ?_, ?_⟩, ?_⟩
  all_goals first
    | omega
    | (unfold pts; generalize (b + (e - b) / 2) = M; grind)
    | (intro p q r k1 k2 k3 k4 k5 k6
       rw [wiB_pt, wiB_pt, ← decide_not]
       exact decide_eq_decide.2 (by omega))
theorem halves_2 {a b c d e f : Int} (h : BV a b c d e f) (hs : c < f) : Halves a b c d e f a b c d e (c + (f - c) / 2) a b ((c + (f - c) / 2) + 1) d e f := by
  obtain ⟨⟨ax0, ax1, ay0, ay1, az0, az1⟩, ⟨dx0, dx1, dy0, dy1, dz0, dz1⟩, hx, hy, hz⟩ := h
  refine ⟨⟨⟨?_, ?_, ?_, ?_, ?_, ?_⟩, ⟨?_, ?_, ?_, ?_, ?_, ?_⟩, ?_, ?_, ?_⟩, ⟨⟨?_, ?_, ?_, ?_, ?_, ?_⟩, ⟨?_, ?_, ?_, ?_, ?_, ?_⟩, ?_, ?_, ?_⟩, ⟨?_, ?_, ?_, ?_, ?_, ?_⟩, ⟨?_, ?_, ?_, ?_, ?_, ?_⟩, ⟨?_, ?_, ?_, ?_, ?_, ?_⟩, ?_, ⟨?_, ?_, ?_, ?_, ?_, ?_⟩, ?_⟩
  all_goals first
    | omega
    | (unfold pts; generalize (c + (f - c) / 2) = M; grind)
    | (intro p q r k1 k2 k3 k4 k5 k6
       rw [wiB_pt, wiB_pt, ← decide_not]
       exact decide_eq_decide.2 (by omega))
set_option maxRecDepth 100000 in
theorem split_no (a b c : Int) (h : BV a b c a b c) (w : World) :
    Calls Try.prog 31 #[.agg #[.int .i64 a, .int .i64 b, .int .i64 c, .int .i64 a, .int .i64 b, .int .i64 c]] w fun r w' => r = .returned (.tuple #[.agg #[.int .i64 0, .int .i64 0, .int .i64 0, .int .i64 0, .int .i64 0, .int .i64 0], .agg #[.int .i64 0, .int .i64 0, .int .i64 0, .int .i64 0, .int .i64 0, .int .i64 0], .bool false]) ∧ Below w.heap.size w w' := by
  have P := Lib.hid (points_yes a b c a b c h)
  rw [pts_self] at P
  clear h
  have p2 := Lib.hid (blk_alloc (blk_new1 w (.cells #[.int .i64 a, .int .i64 b, .int .i64 c, .int .i64 a, .int .i64 b, .int .i64 c] 26) (.cells #[.int .i64 0, .int .i64 0, .int .i64 0, .int .i64 0, .int .i64 0, .int .i64 0] 26)) (.cells #[.int .i64 0, .int .i64 0, .int .i64 0, .int .i64 0, .int .i64 0, .int .i64 0] 26))
  have p3 := Lib.hid (blk_new2 w (.cells #[.int .i64 a, .int .i64 b, .int .i64 c, .int .i64 a, .int .i64 b, .int .i64 c] 26) (.cells #[.int .i64 0, .int .i64 0, .int .i64 0, .int .i64 0, .int .i64 0, .int .i64 0] 26) (.cells #[.int .i64 0, .int .i64 0, .int .i64 0, .int .i64 0, .int .i64 0, .int .i64 0] 26))
  have hA : Hid (Below w.heap.size w (((w.alloc (.cells #[.int .i64 a, .int .i64 b, .int .i64 c, .int .i64 a, .int .i64 b, .int .i64 c] 26)).alloc (.cells #[.int .i64 0, .int .i64 0, .int .i64 0, .int .i64 0, .int .i64 0, .int .i64 0] 26)).alloc (.cells #[.int .i64 0, .int .i64 0, .int .i64 0, .int .i64 0, .int .i64 0, .int .i64 0] 26))) := Lib.hid (Buf.then_ (Buf.then_ (new_block _) (new_block _)) (new_block _))
  go_enter Try.func31, Try.ntmps31
  go_wp2_with fail
  with_reducible refine (P.out _).mono ?_
  rintro r w1 ⟨rfl, hb⟩
  replace p2 := Lib.hid (blk_b hb p2.out)
  replace p3 := Lib.hid (blk_b hb p3.out)
  replace hA := Lib.hid (Buf.then_ hA.out hb)
  obtain ⟨e1, e2, e3, e4, e5, e6, e7, e8, e9, e10, e11, e12⟩ := cells6f p2.out
  obtain ⟨h1, h2, h3, h4, h5, h6, h7, h8, h9, h10, h11, h12⟩ := cells6f p3.out
  clear hb
  have y1 := Lib.hid (st6 ((st6_other w1 (k := w.heap.size + 1 + 1) (g := w.heap.size + 1) (by omega) (.int .i64 0) (.int .i64 0) (.int .i64 0) (.int .i64 0) (.int .i64 0) (.int .i64 0)).trans p3.out) (.int .i64 0) (.int .i64 0) (.int .i64 0) (.int .i64 0) (.int .i64 0) (.int .i64 0))
  have y2 := Lib.hid ((st6_other _ (k := w.heap.size + 1) (g := w.heap.size + 1 + 1) (by omega) (.int .i64 0) (.int .i64 0) (.int .i64 0) (.int .i64 0) (.int .i64 0) (.int .i64 0)).trans (st6 p2.out (.int .i64 0) (.int .i64 0) (.int .i64 0) (.int .i64 0) (.int .i64 0) (.int .i64 0)))
  have y3 := Lib.hid (st6_below (st6_below hA.out (g := w.heap.size + 1) (by omega) (.int .i64 0) (.int .i64 0) (.int .i64 0) (.int .i64 0) (.int .i64 0) (.int .i64 0)) (g := w.heap.size + 1 + 1) (by omega) (.int .i64 0) (.int .i64 0) (.int .i64 0) (.int .i64 0) (.int .i64 0) (.int .i64 0))
  go_wp2
  exact bodyPost_ret (results_two_rows_tmp rfl _ _ (w.heap.size + 1) (w.heap.size + 1 + 1) _ _ _ _ _ _ _ _ rfl y2.out rfl (by rfl) rfl rfl y1.out rfl (by rfl) rfl) rfl ⟨rfl, y3.out⟩
end Geo
end Go.Proofs.Ytldgihlhioeipaa
