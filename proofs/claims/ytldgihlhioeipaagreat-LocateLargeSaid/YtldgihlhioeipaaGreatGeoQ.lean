/- The halves of a box. -/
import Derived.Test.YtldgihlhioeipaaGreatGeoP
namespace Go.Proofs.YtldgihlhioeipaaGreat
open Go.RowKit
namespace Geo
theorem pts_one {a b c d e f : Int} (h : BV a b c d e f) (h1 : pts a b c d e f < 2) : a = d ∧ b = e ∧ c = f := by
  obtain ⟨_, _, hx, hy, hz⟩ := h
  unfold pts at h1
  have k0 : 1 * 1 ≤ (d - a + 1) * (e - b + 1) := Int.mul_le_mul (by omega) (by omega) (by omega) (by omega)
  refine ⟨Classical.byContradiction fun n => ?_, Classical.byContradiction fun n => ?_, Classical.byContradiction fun n => ?_⟩
  · have k1 : 2 * 1 ≤ (d - a + 1) * (e - b + 1) := Int.mul_le_mul (by omega) (by omega) (by omega) (by omega)
    have k2 : 2 * 1 ≤ (d - a + 1) * (e - b + 1) * (f - c + 1) := Int.mul_le_mul (by omega) (by omega) (by omega) (by omega)
    omega
  · have k1 : 1 * 2 ≤ (d - a + 1) * (e - b + 1) := Int.mul_le_mul (by omega) (by omega) (by omega) (by omega)
    have k2 : 2 * 1 ≤ (d - a + 1) * (e - b + 1) * (f - c + 1) := Int.mul_le_mul (by omega) (by omega) (by omega) (by omega)
    omega
  · have k2 : 1 * 2 ≤ (d - a + 1) * (e - b + 1) * (f - c + 1) := Int.mul_le_mul (by omega) (by omega) (by omega) (by omega)
    omega
theorem pts_self (a b c : Int) : pts a b c a b c = 1 := by unfold pts; simp
theorem pts_rng {a b c d e f : Int} (h : BV a b c d e f) : 1 ≤ pts a b c d e f ∧ pts a b c d e f ≤ 4683752477283074049 := (pts_bd h).2
theorem cells12 {w : World} {g : Nat} {c0 c1 c2 c3 c4 c5 c6 c7 c8 c9 c10 c11 : Value} {t : TypeId} (h : w.heap[g]? = some (.cells #[c0, c1, c2, c3, c4, c5, c6, c7, c8, c9, c10, c11] t (0, 0))) : w.cell? ⟨g, 0, none⟩ = some c0 ∧ w.cell? ⟨g, 1, none⟩ = some c1 ∧ w.cell? ⟨g, 2, none⟩ = some c2 ∧ w.cell? ⟨g, 3, none⟩ = some c3 ∧ w.cell? ⟨g, 4, none⟩ = some c4 ∧ w.cell? ⟨g, 5, none⟩ = some c5 ∧ w.cell? ⟨g, 6, none⟩ = some c6 ∧ w.cell? ⟨g, 7, none⟩ = some c7 ∧ w.cell? ⟨g, 8, none⟩ = some c8 ∧ w.cell? ⟨g, 9, none⟩ = some c9 ∧ w.cell? ⟨g, 10, none⟩ = some c10 ∧ w.cell? ⟨g, 11, none⟩ = some c11 :=
  ⟨cell_of_row w g 0 _ _ _ h, cell_of_row w g 1 _ _ _ h, cell_of_row w g 2 _ _ _ h, cell_of_row w g 3 _ _ _ h, cell_of_row w g 4 _ _ _ h, cell_of_row w g 5 _ _ _ h, cell_of_row w g 6 _ _ _ h, cell_of_row w g 7 _ _ _ h, cell_of_row w g 8 _ _ _ h, cell_of_row w g 9 _ _ _ h, cell_of_row w g 10 _ _ _ h, cell_of_row w g 11 _ _ _ h⟩
/-- Two boxes are the halves of a box. -/
structure Halves (a b c d e f x1 x2 x3 x4 x5 x6 y1 y2 y3 y4 y5 y6 : Int) : Prop where
  bx : BV x1 x2 x3 x4 x5 x6
  bY : BV y1 y2 y3 y4 y5 y6
  wx : a ≤ x1 ∧ x4 ≤ d ∧ b ≤ x2 ∧ x5 ≤ e ∧ c ≤ x3 ∧ x6 ≤ f
  wy : a ≤ y1 ∧ y4 ≤ d ∧ b ≤ y2 ∧ y5 ≤ e ∧ c ≤ y3 ∧ y6 ≤ f
  cen : x1 ≤ a + (d - a) / 2 ∧ a + (d - a) / 2 ≤ x4 ∧ x2 ≤ b + (e - b) / 2 ∧ b + (e - b) / 2 ≤ x5 ∧ x3 ≤ c + (f - c) / 2 ∧ c + (f - c) / 2 ≤ x6
  num : pts x1 x2 x3 x4 x5 x6 + pts y1 y2 y3 y4 y5 y6 = pts a b c d e f
  hull : min x1 y1 = a ∧ min x2 y2 = b ∧ min x3 y3 = c ∧ max x4 y4 = d ∧ max x5 y5 = e ∧ max x6 y6 = f
  part : ∀ p q r : Int, a ≤ p → p ≤ d → b ≤ q → q ≤ e → c ≤ r → r ≤ f → wiB p q r p q r x1 x2 x3 x4 x5 x6 = !wiB p q r p q r y1 y2 y3 y4 y5 y6
theorem wiB_pt (p q r x1 x2 x3 x4 x5 x6 : Int) : wiB p q r p q r x1 x2 x3 x4 x5 x6 = decide (x1 ≤ p ∧ p ≤ x4 ∧ x2 ≤ q ∧ q ≤ x5 ∧ x3 ≤ r ∧ r ≤ x6) := rfl
theorem halves_0 {a b c d e f : Int} (h : BV a b c d e f) (hs : a < d) : Halves a b c d e f a b c (a + (d - a) / 2) e f ((a + (d - a) / 2) + 1) b c d e f := by
  obtain ⟨⟨ax0, ax1, ay0, ay1, az0, az1⟩, ⟨dx0, dx1, dy0, dy1, dz0, dz1⟩, hx, hy, hz⟩ := h
  refine ⟨⟨⟨?_, ?_, ?_, ?_, ?_, ?_⟩, ⟨?_, ?_, ?_, ?_, ?_, ?_⟩, ?_, ?_, ?_⟩, ⟨⟨?_, ?_, ?_, ?_, ?_, ?_⟩, ⟨?_, ?_, ?_, ?_, ?_, ?_⟩, ?_, ?_, ?_⟩, ⟨?_, ?_, ?_, ?_, ?_, ?_⟩, ⟨?_, ?_, ?_, ?_, ?_, ?_⟩, ⟨?_, ?_, ?_, ?_, ?_, ?_⟩, ?_, ⟨?_, ?_, ?_, ?_, ?_, ?_⟩, ?_⟩
  all_goals first
    | omega
    | (unfold pts; generalize (a + (d - a) / 2) = M; grind)
    | (intro p q r k1 k2 k3 k4 k5 k6
       rw [wiB_pt, wiB_pt, ← decide_not]
       exact decide_eq_decide.2 (by omega))
theorem halves_1 {a b c d e f : Int} (h : BV a b c d e f) (hs : b < e) : Halves a b c d e f a b c d (b + (e - b) / 2) f a ((b + (e - b) / 2) + 1) c d e f := by
  obtain ⟨⟨ax0, ax1, ay0, ay1, az0, az1⟩, ⟨dx0, dx1, dy0, dy1, dz0, dz1⟩, hx, hy, hz⟩ := h
  refine ⟨⟨⟨?_, ?_, ?_, ?_, ?_, ?_⟩, ⟨?_, ?_, ?_, ?_, ?_, ?_⟩, ?_, ?_, ?_⟩, ⟨⟨?_, ?_, ?_, ?_, ?_, ?_⟩, ⟨?_, ?_, ?_, ?_, ?_, ?_⟩, ?_, ?_, ?_⟩, ⟨?_, ?_, ?_, ?_, ?_, ?_⟩, ⟨?_, ?_, ?_, ?_, ?_, ?_⟩, ⟨?_, ?_, ?_, ?_, ?_, ?_⟩, ?_, ⟨?_, ?_, ?_, ?_, ?_, ?_⟩, ?_⟩
  all_goals first
    | omega
    | (unfold pts; generalize (b + (e - b) / 2) = M; grind)
    | (intro p q r k1 k2 k3 k4 k5 k6
       rw [wiB_pt, wiB_pt, ← decide_not]
       exact decide_eq_decide.2 (by omega))
theorem halves_2 {a b c d e f : Int} (h : BV a b c d e f) (hs : c < f) : Halves a b c d e f a b c d e (c + (f - c) / 2) a b ((c + (f - c) / 2) + 1) d e f := by
  obtain ⟨⟨ax0, ax1, ay0, ay1, az0, az1⟩, ⟨dx0, dx1, dy0, dy1, dz0, dz1⟩, hx, hy, hz⟩ := h
  refine ⟨⟨⟨?_, ?_, ?_, ?_, ?_, ?_⟩, ⟨?_, ?_, ?_, ?_, ?_, ?_⟩, ?_, ?_, ?_⟩, ⟨⟨?_, ?_, ?_, ?_, ?_, ?_⟩, ⟨?_, ?_, ?_, ?_, ?_, ?_⟩, ?_, ?_, ?_⟩, ⟨?_, ?_, ?_, ?_, ?_, ?_⟩, ⟨?_, ?_, ?_, ?_, ?_, ?_⟩, ⟨?_, ?_, ?_, ?_, ?_, ?_⟩, ?_, ⟨?_, ?_, ?_, ?_, ?_, ?_⟩, ?_⟩
  all_goals first
    | omega
    | (unfold pts; generalize (c + (f - c) / 2) = M; grind)
    | (intro p q r k1 k2 k3 k4 k5 k6
       rw [wiB_pt, wiB_pt, ← decide_not]
       exact decide_eq_decide.2 (by omega))
set_option maxRecDepth 100000 in
theorem split_two (a b c d e f : Int) (h : BV a b c d e f) (h2 : 2 ≤ pts a b c d e f) : ∃ x1 x2 x3 x4 x5 x6 y1 y2 y3 y4 y5 y6 : Int, (∀ w, Calls Tryz.prog 62 #[.agg #[.int .i64 a, .int .i64 b, .int .i64 c, .int .i64 d, .int .i64 e, .int .i64 f]] w fun r w' => r = .returned (.tuple #[.agg #[.int .i64 x1, .int .i64 x2, .int .i64 x3, .int .i64 x4, .int .i64 x5, .int .i64 x6], .agg #[.int .i64 y1, .int .i64 y2, .int .i64 y3, .int .i64 y4, .int .i64 y5, .int .i64 y6], .bool true]) ∧ Below w.heap.size w w') ∧ Halves a b c d e f x1 x2 x3 x4 x5 x6 y1 y2 y3 y4 y5 y6 := by
  have hne : ¬ (a = d ∧ b = e ∧ c = f) := by rintro ⟨rfl, rfl, rfl⟩; rw [pts_self] at h2; omega
  have hx := h.x
  have hy := h.y
  have hz := h.z
  by_cases k1 : e - b ≤ d - a
  · by_cases k2 : f - c ≤ d - a
    · exact ⟨_, _, _, _, _, _, _, _, _, _, _, _, split_A a b c d e f h h2 k1 k2, halves_0 h (by omega)⟩
    · exact ⟨_, _, _, _, _, _, _, _, _, _, _, _, split_B a b c d e f h h2 k1 (by omega), halves_2 h (by omega)⟩
  · by_cases k2 : f - c ≤ e - b
    · exact ⟨_, _, _, _, _, _, _, _, _, _, _, _, split_C a b c d e f h h2 (by omega) k2, halves_1 h (by omega)⟩
    · exact ⟨_, _, _, _, _, _, _, _, _, _, _, _, split_D a b c d e f h h2 (by omega) (by omega), halves_2 h (by omega)⟩
set_option maxRecDepth 100000 in
theorem split_no (a b c : Int) (h : BV a b c a b c) (w : World) :
    Calls Tryz.prog 62 #[.agg #[.int .i64 a, .int .i64 b, .int .i64 c, .int .i64 a, .int .i64 b, .int .i64 c]] w fun r w' => r = .returned (.tuple #[.agg #[.int .i64 0, .int .i64 0, .int .i64 0, .int .i64 0, .int .i64 0, .int .i64 0], .agg #[.int .i64 0, .int .i64 0, .int .i64 0, .int .i64 0, .int .i64 0, .int .i64 0], .bool false]) ∧ Below w.heap.size w w' := by
  have P := Lib.hid (points_yes a b c a b c h)
  rw [pts_self] at P
  clear h
  have p2 := Lib.hid (blk_alloc (blk_new1 w (.cells #[.int .i64 a, .int .i64 b, .int .i64 c, .int .i64 a, .int .i64 b, .int .i64 c] 28) (.cells #[.int .i64 0, .int .i64 0, .int .i64 0, .int .i64 0, .int .i64 0, .int .i64 0] 28)) (.cells #[.int .i64 0, .int .i64 0, .int .i64 0, .int .i64 0, .int .i64 0, .int .i64 0] 28))
  have p3 := Lib.hid (blk_new2 w (.cells #[.int .i64 a, .int .i64 b, .int .i64 c, .int .i64 a, .int .i64 b, .int .i64 c] 28) (.cells #[.int .i64 0, .int .i64 0, .int .i64 0, .int .i64 0, .int .i64 0, .int .i64 0] 28) (.cells #[.int .i64 0, .int .i64 0, .int .i64 0, .int .i64 0, .int .i64 0, .int .i64 0] 28))
  have hA : Hid (Below w.heap.size w (((w.alloc (.cells #[.int .i64 a, .int .i64 b, .int .i64 c, .int .i64 a, .int .i64 b, .int .i64 c] 28)).alloc (.cells #[.int .i64 0, .int .i64 0, .int .i64 0, .int .i64 0, .int .i64 0, .int .i64 0] 28)).alloc (.cells #[.int .i64 0, .int .i64 0, .int .i64 0, .int .i64 0, .int .i64 0, .int .i64 0] 28))) := Lib.hid (Buf.then_ (Buf.then_ (new_block _) (new_block _)) (new_block _))
  go_enter Tryz.func62, Tryz.ntmps62
  go_wp2_with fail
  with_reducible refine (P.out _).mono ?_
  rintro r w1 ⟨rfl, hb⟩
  replace p2 := Lib.hid (blk_b hb p2.out)
  replace p3 := Lib.hid (blk_b hb p3.out)
  replace hA := Lib.hid (Buf.then_ hA.out hb)
  obtain ⟨e1, e2, e3, e4, e5, e6, e7, e8, e9, e10, e11, e12⟩ := cells6f p2.out
  obtain ⟨h1, h2, h3, h4, h5, h6, h7, h8, h9, h10, h11, h12⟩ := cells6f p3.out
  clear hb
  have y1 := Lib.hid (st6 ((st6_other w1 (k := w.heap.size + 1 + 1) (g := w.heap.size + 1) (by omega) (.int .i64 0) (.int .i64 0) (.int .i64 0) (.int .i64 0) (.int .i64 0) (.int .i64 0)).trans p3.out) (.int .i64 0) (.int .i64 0) (.int .i64 0) (.int .i64 0) (.int .i64 0) (.int .i64 0))
  have y2 := Lib.hid ((st6_other _ (k := w.heap.size + 1) (g := w.heap.size + 1 + 1) (by omega) (.int .i64 0) (.int .i64 0) (.int .i64 0) (.int .i64 0) (.int .i64 0) (.int .i64 0)).trans (st6 p2.out (.int .i64 0) (.int .i64 0) (.int .i64 0) (.int .i64 0) (.int .i64 0) (.int .i64 0)))
  have y3 := Lib.hid (st6_below (st6_below hA.out (g := w.heap.size + 1) (by omega) (.int .i64 0) (.int .i64 0) (.int .i64 0) (.int .i64 0) (.int .i64 0) (.int .i64 0)) (g := w.heap.size + 1 + 1) (by omega) (.int .i64 0) (.int .i64 0) (.int .i64 0) (.int .i64 0) (.int .i64 0) (.int .i64 0))
  go_wp2
  exact bodyPost_ret (results_two_rows_tmp rfl _ _ (w.heap.size + 1) (w.heap.size + 1 + 1) _ _ _ _ _ _ _ _ rfl y2.out rfl (by rfl) rfl rfl y1.out rfl (by rfl) rfl) rfl ⟨rfl, y3.out⟩
end Geo
end Go.Proofs.YtldgihlhioeipaaGreat
