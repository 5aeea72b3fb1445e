/- RuleMoved: the walk. -/
import Derived.Test.YticjmblajloefaaRuleK
set_option linter.unusedVariables false
set_option linter.unusedSimpArgs false
namespace Go.Proofs.Yticjmblajloefaa
open Go.RowKit
open Go.Proofs.Yticjmblajloefaa.Ru
namespace Laws
theorem mv_self (q : Nat → Bool) (n : Nat) (Ds X Y Z T L H : Int) (d0 : 0 ≤ Ds) (hL : L ≤ H) : Mv q q n Ds X Y Z T L H X Y Z T L H = false := by
  unfold Mv
  refine decide_eq_false ?_
  have hp := Int.mul_nonneg d0 d0
  rintro (h | ⟨_, h⟩ | h | h)
  · exact h rfl
  · have : Geo.sq3 X Y Z X Y Z = 0 := by simp [Geo.sq3]
    omega
  · omega
  · omega
theorem sq_comm (X Y Z X' Y' Z' : Int) : Geo.sq3 X Y Z X' Y' Z' = Geo.sq3 X' Y' Z' X Y Z := by unfold Geo.sq3; grind
theorem mv_comm (q q' : Nat → Bool) (n : Nat) (Ds X Y Z T L H X' Y' Z' T' L' H' : Int) : Mv q' q n Ds X' Y' Z' T' L' H' X Y Z T L H = Mv q q' n Ds X Y Z T L H X' Y' Z' T' L' H' := by
  unfold Mv
  rw [sq_comm X' Y' Z' X Y Z]
  refine decide_eq_decide.2 ?_
  have h1 : (lev q' n ≠ lev q n) ↔ (lev q n ≠ lev q' n) := ⟨Ne.symm, Ne.symm⟩
  have h2 : (Ds < max T' T - min T' T) ↔ (Ds < max T T' - min T T') := by omega
  have h3 : (¬ max L' L ≤ min H' H) ↔ (¬ max L L' ≤ min H H') := by omega
  rw [h1, h2, h3]
theorem mv_lev (q q' : Nat → Bool) (n : Nat) (Ds X Y Z T L H X' Y' Z' T' L' H' : Int) (h : lev q n ≠ lev q' n) : Mv q q' n Ds X Y Z T L H X' Y' Z' T' L' H' = true := by
  unfold Mv
  exact decide_eq_true (.inl h)
set_option maxRecDepth 100000 in
set_option maxHeartbeats 8000000 in
theorem ruleMoved_walk (a0 : Option Addr) (len0 cap0 : Nat) (z0 : List Int) (w : World) (w0 : Buf.IsRow .i64 w a0 len0 cap0 z0) :
    Calls Try.prog 4 #[.slice a0 len0 cap0] w fun e w' => e = .returned (.bool true) ∧ Below w.heap.size w w' := by
  go_enter Try.func4, Try.ntmps4
  go_wp2_with fail
  refine (Src.new_any a0 len0 cap0 z0 w w0).mono ?_
  rintro e w1 ⟨rfl, nn, D1⟩
  have g1 := D1.lt
  go_wp2_with fail
  refine (policy_any D1).mono ?_
  rintro e v0 ⟨⟨gb, n, c, M, P, F, E, Ds, Ev, rfl, R, n3, d0, d9, e0, e9, hgb⟩, l0⟩
  have gbn : gb ≠ w.heap.size := by omega
  replace R := Lib.hid R
  replace l0 := Lib.hid l0
  clear D1
  go_wp2_with fail
  refine (event_any l0.out.di 1).mono ?_
  rintro e v1 ⟨⟨s0, s1, s2, s3, n1, n2, n3, n4, n5, pa, pn, pc, X, Y, Z, T, Mi, Lo, A1, A2, A3, A4, A5, A6, L, H, C, rfl, pv, t0, t9, hLH⟩, l⟩
  replace R := Lib.hid (R.out.of_block l.far.size (l.far.block gb R.out.lt (by simpa using gbn)))
  have l1 := Lib.hid (l0.out.trans l)
  clear l
  go_wp2_with fail
  refine (event_any l1.out.di 2).mono ?_
  rintro e v2 ⟨⟨s0x, s1x, s2x, s3x, n1x, n2x, n3x, n4x, n5x, pax, pnx, pcx, Xx, Yx, Zx, Tx, Mix, Lox, A1x, A2x, A3x, A4x, A5x, A6x, Lx, Hx, Cx, rfl, pvx, t0x, t9x, hLHx⟩, l⟩
  replace R := Lib.hid (R.out.of_block l.far.size (l.far.block gb R.out.lt (by simpa using gbn)))
  have l2 := Lib.hid (l1.out.trans l)
  clear l
  clear l1
  go_upto_region 3 with (first | ((with_reducible refine Mid.str 27 (.tmp 4) (.tmp 10) v2.heap.size 27 #[.slice none 0 0, .int .i64 0, .int .i64 0] #[.slice (some ⟨gb, 0, none⟩) n c, .int .i64 Ds, .int .i64 Ev] (Geo.blk_alloc (Geo.blk_alloc (Geo.blk_new v2 _) _) _) ?_ ?_ ?_ ?_ ?_ ?_ ?_ ?_); (· rfl); (· rfl); (· first | rfl | simp [Act.eval]); (· first | rfl | simp [Act.eval]); (· kernel_rfl); (· rfl); (· simp [Value.oneCell'])) | ((with_reducible refine Mid.str 45 (.tmp 5) (.tmp 12) (v2.heap.size + 1) 45 #[.string ⟨#[]⟩, .string ⟨#[]⟩, .string ⟨#[]⟩, .string ⟨#[]⟩, .int .i64 0, .int .i64 0, .int .i64 0, .int .i64 0, .int .i64 0, .slice none 0 0, .int .i64 0, .int .i64 0, .int .i64 0, .int .i64 0, .int .i64 0, .int .i64 0, .int .i64 0, .int .i64 0, .int .i64 0, .int .i64 0, .int .i64 0, .int .i64 0, .int .i64 0, .int .i64 0, .int .i64 0] #[.string s0, .string s1, .string s2, .string s3, .int .i64 n1, .int .i64 n2, .int .i64 n3, .int .i64 n4, .int .i64 n5, .slice pa pn pc, .int .i64 X, .int .i64 Y, .int .i64 Z, .int .i64 T, .int .i64 Mi, .int .i64 Lo, .int .i64 A1, .int .i64 A2, .int .i64 A3, .int .i64 A4, .int .i64 A5, .int .i64 A6, .int .i64 L, .int .i64 H, .int .i64 C] ((setRow_other _ _ _ _ (by omega)).trans (Geo.blk_alloc (Geo.blk_new1 v2 _ _) _)) ?_ ?_ ?_ ?_ ?_ ?_ ?_ ?_); (· rfl); (· rfl); (· first | rfl | simp [Act.eval]); (· first | rfl | simp [Act.eval]); (· kernel_rfl); (· rfl); (· simp [Value.oneCell'])) | ((with_reducible refine Mid.str 45 (.tmp 6) (.tmp 14) ((v2.heap.size + 1) + 1) 45 #[.string ⟨#[]⟩, .string ⟨#[]⟩, .string ⟨#[]⟩, .string ⟨#[]⟩, .int .i64 0, .int .i64 0, .int .i64 0, .int .i64 0, .int .i64 0, .slice none 0 0, .int .i64 0, .int .i64 0, .int .i64 0, .int .i64 0, .int .i64 0, .int .i64 0, .int .i64 0, .int .i64 0, .int .i64 0, .int .i64 0, .int .i64 0, .int .i64 0, .int .i64 0, .int .i64 0, .int .i64 0] #[.string s0x, .string s1x, .string s2x, .string s3x, .int .i64 n1x, .int .i64 n2x, .int .i64 n3x, .int .i64 n4x, .int .i64 n5x, .slice pax pnx pcx, .int .i64 Xx, .int .i64 Yx, .int .i64 Zx, .int .i64 Tx, .int .i64 Mix, .int .i64 Lox, .int .i64 A1x, .int .i64 A2x, .int .i64 A3x, .int .i64 A4x, .int .i64 A5x, .int .i64 A6x, .int .i64 Lx, .int .i64 Hx, .int .i64 Cx] ((setRow_other _ _ _ _ (by omega)).trans ((setRow_other _ _ _ _ (by omega)).trans (Geo.blk_new2 v2 _ _ _))) ?_ ?_ ?_ ?_ ?_ ?_ ?_ ?_); (· rfl); (· rfl); (· first | rfl | simp [Act.eval]); (· first | rfl | simp [Act.eval]); (· kernel_rfl); (· rfl); (· simp [Value.oneCell'])))
  have q0 := Lib.hid (show ((((((v2.alloc (.cells #[.slice none 0 0, .int .i64 0, .int .i64 0] 27)).alloc (.cells #[.string ⟨#[]⟩, .string ⟨#[]⟩, .string ⟨#[]⟩, .string ⟨#[]⟩, .int .i64 0, .int .i64 0, .int .i64 0, .int .i64 0, .int .i64 0, .slice none 0 0, .int .i64 0, .int .i64 0, .int .i64 0, .int .i64 0, .int .i64 0, .int .i64 0, .int .i64 0, .int .i64 0, .int .i64 0, .int .i64 0, .int .i64 0, .int .i64 0, .int .i64 0, .int .i64 0, .int .i64 0] 45)).alloc (.cells #[.string ⟨#[]⟩, .string ⟨#[]⟩, .string ⟨#[]⟩, .string ⟨#[]⟩, .int .i64 0, .int .i64 0, .int .i64 0, .int .i64 0, .int .i64 0, .slice none 0 0, .int .i64 0, .int .i64 0, .int .i64 0, .int .i64 0, .int .i64 0, .int .i64 0, .int .i64 0, .int .i64 0, .int .i64 0, .int .i64 0, .int .i64 0, .int .i64 0, .int .i64 0, .int .i64 0, .int .i64 0] 45)).setRow v2.heap.size #[.slice (some ⟨gb, 0, none⟩) n c, .int .i64 Ds, .int .i64 Ev]).setRow (v2.heap.size + 1) #[.string s0, .string s1, .string s2, .string s3, .int .i64 n1, .int .i64 n2, .int .i64 n3, .int .i64 n4, .int .i64 n5, .slice pa pn pc, .int .i64 X, .int .i64 Y, .int .i64 Z, .int .i64 T, .int .i64 Mi, .int .i64 Lo, .int .i64 A1, .int .i64 A2, .int .i64 A3, .int .i64 A4, .int .i64 A5, .int .i64 A6, .int .i64 L, .int .i64 H, .int .i64 C]).setRow ((v2.heap.size + 1) + 1) #[.string s0x, .string s1x, .string s2x, .string s3x, .int .i64 n1x, .int .i64 n2x, .int .i64 n3x, .int .i64 n4x, .int .i64 n5x, .slice pax pnx pcx, .int .i64 Xx, .int .i64 Yx, .int .i64 Zx, .int .i64 Tx, .int .i64 Mix, .int .i64 Lox, .int .i64 A1x, .int .i64 A2x, .int .i64 A3x, .int .i64 A4x, .int .i64 A5x, .int .i64 A6x, .int .i64 Lx, .int .i64 Hx, .int .i64 Cx]).heap[v2.heap.size]? = some (.cells #[.slice (some ⟨gb, 0, none⟩) n c, .int .i64 Ds, .int .i64 Ev] 27 (0, 0)) from ((setRow_other _ _ _ _ (by omega)).trans ((setRow_other _ _ _ _ (by omega)).trans (setRow_heap _ _ _ _ _ _ (Geo.blk_alloc (Geo.blk_alloc (Geo.blk_new v2 _) _) _)))))
  have q1 := Lib.hid (show ((((((v2.alloc (.cells #[.slice none 0 0, .int .i64 0, .int .i64 0] 27)).alloc (.cells #[.string ⟨#[]⟩, .string ⟨#[]⟩, .string ⟨#[]⟩, .string ⟨#[]⟩, .int .i64 0, .int .i64 0, .int .i64 0, .int .i64 0, .int .i64 0, .slice none 0 0, .int .i64 0, .int .i64 0, .int .i64 0, .int .i64 0, .int .i64 0, .int .i64 0, .int .i64 0, .int .i64 0, .int .i64 0, .int .i64 0, .int .i64 0, .int .i64 0, .int .i64 0, .int .i64 0, .int .i64 0] 45)).alloc (.cells #[.string ⟨#[]⟩, .string ⟨#[]⟩, .string ⟨#[]⟩, .string ⟨#[]⟩, .int .i64 0, .int .i64 0, .int .i64 0, .int .i64 0, .int .i64 0, .slice none 0 0, .int .i64 0, .int .i64 0, .int .i64 0, .int .i64 0, .int .i64 0, .int .i64 0, .int .i64 0, .int .i64 0, .int .i64 0, .int .i64 0, .int .i64 0, .int .i64 0, .int .i64 0, .int .i64 0, .int .i64 0] 45)).setRow v2.heap.size #[.slice (some ⟨gb, 0, none⟩) n c, .int .i64 Ds, .int .i64 Ev]).setRow (v2.heap.size + 1) #[.string s0, .string s1, .string s2, .string s3, .int .i64 n1, .int .i64 n2, .int .i64 n3, .int .i64 n4, .int .i64 n5, .slice pa pn pc, .int .i64 X, .int .i64 Y, .int .i64 Z, .int .i64 T, .int .i64 Mi, .int .i64 Lo, .int .i64 A1, .int .i64 A2, .int .i64 A3, .int .i64 A4, .int .i64 A5, .int .i64 A6, .int .i64 L, .int .i64 H, .int .i64 C]).setRow ((v2.heap.size + 1) + 1) #[.string s0x, .string s1x, .string s2x, .string s3x, .int .i64 n1x, .int .i64 n2x, .int .i64 n3x, .int .i64 n4x, .int .i64 n5x, .slice pax pnx pcx, .int .i64 Xx, .int .i64 Yx, .int .i64 Zx, .int .i64 Tx, .int .i64 Mix, .int .i64 Lox, .int .i64 A1x, .int .i64 A2x, .int .i64 A3x, .int .i64 A4x, .int .i64 A5x, .int .i64 A6x, .int .i64 Lx, .int .i64 Hx, .int .i64 Cx]).heap[(v2.heap.size + 1)]? = some (.cells #[.string s0, .string s1, .string s2, .string s3, .int .i64 n1, .int .i64 n2, .int .i64 n3, .int .i64 n4, .int .i64 n5, .slice pa pn pc, .int .i64 X, .int .i64 Y, .int .i64 Z, .int .i64 T, .int .i64 Mi, .int .i64 Lo, .int .i64 A1, .int .i64 A2, .int .i64 A3, .int .i64 A4, .int .i64 A5, .int .i64 A6, .int .i64 L, .int .i64 H, .int .i64 C] 45 (0, 0)) from ((setRow_other _ _ _ _ (by omega)).trans (setRow_heap _ _ _ _ _ _ ((setRow_other _ _ _ _ (by omega)).trans (Geo.blk_alloc (Geo.blk_new1 v2 _ _) _)))))
  have q2 := Lib.hid (show ((((((v2.alloc (.cells #[.slice none 0 0, .int .i64 0, .int .i64 0] 27)).alloc (.cells #[.string ⟨#[]⟩, .string ⟨#[]⟩, .string ⟨#[]⟩, .string ⟨#[]⟩, .int .i64 0, .int .i64 0, .int .i64 0, .int .i64 0, .int .i64 0, .slice none 0 0, .int .i64 0, .int .i64 0, .int .i64 0, .int .i64 0, .int .i64 0, .int .i64 0, .int .i64 0, .int .i64 0, .int .i64 0, .int .i64 0, .int .i64 0, .int .i64 0, .int .i64 0, .int .i64 0, .int .i64 0] 45)).alloc (.cells #[.string ⟨#[]⟩, .string ⟨#[]⟩, .string ⟨#[]⟩, .string ⟨#[]⟩, .int .i64 0, .int .i64 0, .int .i64 0, .int .i64 0, .int .i64 0, .slice none 0 0, .int .i64 0, .int .i64 0, .int .i64 0, .int .i64 0, .int .i64 0, .int .i64 0, .int .i64 0, .int .i64 0, .int .i64 0, .int .i64 0, .int .i64 0, .int .i64 0, .int .i64 0, .int .i64 0, .int .i64 0] 45)).setRow v2.heap.size #[.slice (some ⟨gb, 0, none⟩) n c, .int .i64 Ds, .int .i64 Ev]).setRow (v2.heap.size + 1) #[.string s0, .string s1, .string s2, .string s3, .int .i64 n1, .int .i64 n2, .int .i64 n3, .int .i64 n4, .int .i64 n5, .slice pa pn pc, .int .i64 X, .int .i64 Y, .int .i64 Z, .int .i64 T, .int .i64 Mi, .int .i64 Lo, .int .i64 A1, .int .i64 A2, .int .i64 A3, .int .i64 A4, .int .i64 A5, .int .i64 A6, .int .i64 L, .int .i64 H, .int .i64 C]).setRow ((v2.heap.size + 1) + 1) #[.string s0x, .string s1x, .string s2x, .string s3x, .int .i64 n1x, .int .i64 n2x, .int .i64 n3x, .int .i64 n4x, .int .i64 n5x, .slice pax pnx pcx, .int .i64 Xx, .int .i64 Yx, .int .i64 Zx, .int .i64 Tx, .int .i64 Mix, .int .i64 Lox, .int .i64 A1x, .int .i64 A2x, .int .i64 A3x, .int .i64 A4x, .int .i64 A5x, .int .i64 A6x, .int .i64 Lx, .int .i64 Hx, .int .i64 Cx]).heap[((v2.heap.size + 1) + 1)]? = some (.cells #[.string s0x, .string s1x, .string s2x, .string s3x, .int .i64 n1x, .int .i64 n2x, .int .i64 n3x, .int .i64 n4x, .int .i64 n5x, .slice pax pnx pcx, .int .i64 Xx, .int .i64 Yx, .int .i64 Zx, .int .i64 Tx, .int .i64 Mix, .int .i64 Lox, .int .i64 A1x, .int .i64 A2x, .int .i64 A3x, .int .i64 A4x, .int .i64 A5x, .int .i64 A6x, .int .i64 Lx, .int .i64 Hx, .int .i64 Cx] 45 (0, 0)) from (setRow_heap _ _ _ _ _ _ ((setRow_other _ _ _ _ (by omega)).trans ((setRow_other _ _ _ _ (by omega)).trans (Geo.blk_new2 v2 _ _ _)))))
  have BB := Lib.hid (show Below v2.heap.size v2 ((((((v2.alloc (.cells #[.slice none 0 0, .int .i64 0, .int .i64 0] 27)).alloc (.cells #[.string ⟨#[]⟩, .string ⟨#[]⟩, .string ⟨#[]⟩, .string ⟨#[]⟩, .int .i64 0, .int .i64 0, .int .i64 0, .int .i64 0, .int .i64 0, .slice none 0 0, .int .i64 0, .int .i64 0, .int .i64 0, .int .i64 0, .int .i64 0, .int .i64 0, .int .i64 0, .int .i64 0, .int .i64 0, .int .i64 0, .int .i64 0, .int .i64 0, .int .i64 0, .int .i64 0, .int .i64 0] 45)).alloc (.cells #[.string ⟨#[]⟩, .string ⟨#[]⟩, .string ⟨#[]⟩, .string ⟨#[]⟩, .int .i64 0, .int .i64 0, .int .i64 0, .int .i64 0, .int .i64 0, .slice none 0 0, .int .i64 0, .int .i64 0, .int .i64 0, .int .i64 0, .int .i64 0, .int .i64 0, .int .i64 0, .int .i64 0, .int .i64 0, .int .i64 0, .int .i64 0, .int .i64 0, .int .i64 0, .int .i64 0, .int .i64 0] 45)).setRow v2.heap.size #[.slice (some ⟨gb, 0, none⟩) n c, .int .i64 Ds, .int .i64 Ev]).setRow (v2.heap.size + 1) #[.string s0, .string s1, .string s2, .string s3, .int .i64 n1, .int .i64 n2, .int .i64 n3, .int .i64 n4, .int .i64 n5, .slice pa pn pc, .int .i64 X, .int .i64 Y, .int .i64 Z, .int .i64 T, .int .i64 Mi, .int .i64 Lo, .int .i64 A1, .int .i64 A2, .int .i64 A3, .int .i64 A4, .int .i64 A5, .int .i64 A6, .int .i64 L, .int .i64 H, .int .i64 C]).setRow ((v2.heap.size + 1) + 1) #[.string s0x, .string s1x, .string s2x, .string s3x, .int .i64 n1x, .int .i64 n2x, .int .i64 n3x, .int .i64 n4x, .int .i64 n5x, .slice pax pnx pcx, .int .i64 Xx, .int .i64 Yx, .int .i64 Zx, .int .i64 Tx, .int .i64 Mix, .int .i64 Lox, .int .i64 A1x, .int .i64 A2x, .int .i64 A3x, .int .i64 A4x, .int .i64 A5x, .int .i64 A6x, .int .i64 Lx, .int .i64 Hx, .int .i64 Cx]) from (Mid.below_row (Mid.below_row (Mid.below_row ((((Below.refl v2.heap.size v2).alloc (Nat.le_refl _) _).alloc (by simp) _).alloc (by simp; omega) _) _ _ (by omega)) _ _ (by omega)) _ _ (by omega)))
  have zB := Lib.hid (show ((((((v2.alloc (.cells #[.slice none 0 0, .int .i64 0, .int .i64 0] 27)).alloc (.cells #[.string ⟨#[]⟩, .string ⟨#[]⟩, .string ⟨#[]⟩, .string ⟨#[]⟩, .int .i64 0, .int .i64 0, .int .i64 0, .int .i64 0, .int .i64 0, .slice none 0 0, .int .i64 0, .int .i64 0, .int .i64 0, .int .i64 0, .int .i64 0, .int .i64 0, .int .i64 0, .int .i64 0, .int .i64 0, .int .i64 0, .int .i64 0, .int .i64 0, .int .i64 0, .int .i64 0, .int .i64 0] 45)).alloc (.cells #[.string ⟨#[]⟩, .string ⟨#[]⟩, .string ⟨#[]⟩, .string ⟨#[]⟩, .int .i64 0, .int .i64 0, .int .i64 0, .int .i64 0, .int .i64 0, .slice none 0 0, .int .i64 0, .int .i64 0, .int .i64 0, .int .i64 0, .int .i64 0, .int .i64 0, .int .i64 0, .int .i64 0, .int .i64 0, .int .i64 0, .int .i64 0, .int .i64 0, .int .i64 0, .int .i64 0, .int .i64 0] 45)).setRow v2.heap.size #[.slice (some ⟨gb, 0, none⟩) n c, .int .i64 Ds, .int .i64 Ev]).setRow (v2.heap.size + 1) #[.string s0, .string s1, .string s2, .string s3, .int .i64 n1, .int .i64 n2, .int .i64 n3, .int .i64 n4, .int .i64 n5, .slice pa pn pc, .int .i64 X, .int .i64 Y, .int .i64 Z, .int .i64 T, .int .i64 Mi, .int .i64 Lo, .int .i64 A1, .int .i64 A2, .int .i64 A3, .int .i64 A4, .int .i64 A5, .int .i64 A6, .int .i64 L, .int .i64 H, .int .i64 C]).setRow ((v2.heap.size + 1) + 1) #[.string s0x, .string s1x, .string s2x, .string s3x, .int .i64 n1x, .int .i64 n2x, .int .i64 n3x, .int .i64 n4x, .int .i64 n5x, .slice pax pnx pcx, .int .i64 Xx, .int .i64 Yx, .int .i64 Zx, .int .i64 Tx, .int .i64 Mix, .int .i64 Lox, .int .i64 A1x, .int .i64 A2x, .int .i64 A3x, .int .i64 A4x, .int .i64 A5x, .int .i64 A6x, .int .i64 Lx, .int .i64 Hx, .int .i64 Cx]).heap.size = v2.heap.size + 1 + 1 + 1 by simp [World.setRow])
  generalize ((((((v2.alloc (.cells #[.slice none 0 0, .int .i64 0, .int .i64 0] 27)).alloc (.cells #[.string ⟨#[]⟩, .string ⟨#[]⟩, .string ⟨#[]⟩, .string ⟨#[]⟩, .int .i64 0, .int .i64 0, .int .i64 0, .int .i64 0, .int .i64 0, .slice none 0 0, .int .i64 0, .int .i64 0, .int .i64 0, .int .i64 0, .int .i64 0, .int .i64 0, .int .i64 0, .int .i64 0, .int .i64 0, .int .i64 0, .int .i64 0, .int .i64 0, .int .i64 0, .int .i64 0, .int .i64 0] 45)).alloc (.cells #[.string ⟨#[]⟩, .string ⟨#[]⟩, .string ⟨#[]⟩, .string ⟨#[]⟩, .int .i64 0, .int .i64 0, .int .i64 0, .int .i64 0, .int .i64 0, .slice none 0 0, .int .i64 0, .int .i64 0, .int .i64 0, .int .i64 0, .int .i64 0, .int .i64 0, .int .i64 0, .int .i64 0, .int .i64 0, .int .i64 0, .int .i64 0, .int .i64 0, .int .i64 0, .int .i64 0, .int .i64 0] 45)).setRow v2.heap.size #[.slice (some ⟨gb, 0, none⟩) n c, .int .i64 Ds, .int .i64 Ev]).setRow (v2.heap.size + 1) #[.string s0, .string s1, .string s2, .string s3, .int .i64 n1, .int .i64 n2, .int .i64 n3, .int .i64 n4, .int .i64 n5, .slice pa pn pc, .int .i64 X, .int .i64 Y, .int .i64 Z, .int .i64 T, .int .i64 Mi, .int .i64 Lo, .int .i64 A1, .int .i64 A2, .int .i64 A3, .int .i64 A4, .int .i64 A5, .int .i64 A6, .int .i64 L, .int .i64 H, .int .i64 C]).setRow ((v2.heap.size + 1) + 1) #[.string s0x, .string s1x, .string s2x, .string s3x, .int .i64 n1x, .int .i64 n2x, .int .i64 n3x, .int .i64 n4x, .int .i64 n5x, .slice pax pnx pcx, .int .i64 Xx, .int .i64 Yx, .int .i64 Zx, .int .i64 Tx, .int .i64 Mix, .int .i64 Lox, .int .i64 A1x, .int .i64 A2x, .int .i64 A3x, .int .i64 A4x, .int .i64 A5x, .int .i64 A6x, .int .i64 Lx, .int .i64 Hx, .int .i64 Cx]) = wB at *
  replace R := Lib.hid (R.out.below BB.out)
  have Dk := Lib.hid (l2.out.di.below BB.out)
  have BW := Lib.hid (Dk.out.bel)
  have zk := l2.out.di.lt
  have zB' := zB.out
  have Q0 := Lib.hid fun w' (hC : Below wB.heap.size wB w') => (hC.block _ (by omega)).trans q0.out
  have Q1 := Lib.hid fun w' (hC : Below wB.heap.size wB w') => (hC.block _ (by omega)).trans q1.out
  have Q2 := Lib.hid fun w' (hC : Below wB.heap.size wB w') => (hC.block _ (by omega)).trans q2.out
  clear q0 q1 q2 BB
  obtain ⟨m, hm⟩ : ∃ m, Mv (mq M P F pn Mi L C) (mq M P F pnx Mix Lx Cx) n Ds X Y Z T L H Xx Yx Zx Tx Lx Hx = m := ⟨_, rfl⟩
  have CAA := Lib.hid fun w' (hC : Below wB.heap.size wB w') => by have h := moved_any gb n c M P F E Ds Ev s0 s1 s2 s3 n1 n2 n3 n4 n5 pa pn pc X Y Z T Mi Lo A1 A2 A3 A4 A5 A6 L H C s0 s1 s2 s3 n1 n2 n3 n4 n5 pa pn pc X Y Z T Mi Lo A1 A2 A3 A4 A5 A6 L H C w' (R.out.below hC) d0 (by omega) e0 (by omega) t0 (by omega) t0 (by omega) pv pv; rw [mv_self _ _ _ _ _ _ _ _ _ d0 hLH] at h; exact h
  have CAB := Lib.hid fun w' (hC : Below wB.heap.size wB w') => by have h := moved_any gb n c M P F E Ds Ev s0 s1 s2 s3 n1 n2 n3 n4 n5 pa pn pc X Y Z T Mi Lo A1 A2 A3 A4 A5 A6 L H C s0x s1x s2x s3x n1x n2x n3x n4x n5x pax pnx pcx Xx Yx Zx Tx Mix Lox A1x A2x A3x A4x A5x A6x Lx Hx Cx w' (R.out.below hC) d0 (by omega) e0 (by omega) t0 (by omega) t0x (by omega) pv pvx; rw [hm] at h; exact h
  have CBA := Lib.hid fun w' (hC : Below wB.heap.size wB w') => by have h := moved_any gb n c M P F E Ds Ev s0x s1x s2x s3x n1x n2x n3x n4x n5x pax pnx pcx Xx Yx Zx Tx Mix Lox A1x A2x A3x A4x A5x A6x Lx Hx Cx s0 s1 s2 s3 n1 n2 n3 n4 n5 pa pn pc X Y Z T Mi Lo A1 A2 A3 A4 A5 A6 L H C w' (R.out.below hC) d0 (by omega) e0 (by omega) t0x (by omega) t0 (by omega) pvx pv; rw [mv_comm, hm] at h; exact h
  obtain ⟨la, hla⟩ : ∃ la, lev (mq M P F pn Mi L C) n = la := ⟨_, rfl⟩
  obtain ⟨lb, hlb⟩ : ∃ lb, lev (mq M P F pnx Mix Lx Cx) n = lb := ⟨_, rfl⟩
  have CLA := Lib.hid fun w' (hC : Below wB.heap.size wB w') => by have h := level_any gb n c M P F E Ds Ev s0 s1 s2 s3 n1 n2 n3 n4 n5 pa pn pc X Y Z T Mi Lo A1 A2 A3 A4 A5 A6 L H C w' (R.out.below hC) d0 (by omega) e0 (by omega); rw [hla] at h; exact h
  have CLB := Lib.hid fun w' (hC : Below wB.heap.size wB w') => by have h := level_any gb n c M P F E Ds Ev s0x s1x s2x s3x n1x n2x n3x n4x n5x pax pnx pcx Xx Yx Zx Tx Mix Lox A1x A2x A3x A4x A5x A6x Lx Hx Cx w' (R.out.below hC) d0 (by omega) e0 (by omega); rw [hlb] at h; exact h
  have hml : la ≠ lb → m = true := fun h => by rw [← hm]; exact mv_lev _ _ _ _ _ _ _ _ _ _ _ _ _ _ _ _ (by rw [hla, hlb]; exact h)
  replace hm := Lib.hid hm
  replace hla := Lib.hid hla
  replace hlb := Lib.hid hlb
  have BC0 := Lib.hid (Below.refl wB.heap.size wB)
  refine wp_region_noPanic ?_
  refine wp_region_any (by kernel_rfl) ?_
  refine Inv.wpAny_inv (fun k => false) [15, 16, 17, 18, 19, 20, 21, 22, 23, 24, 25, 26, 27, 28, 29] (fun w' => Below wB.heap.size wB w') (fun _ _ _ => True) (fun k => ([fun v_ w_ => v_ = .agg #[.slice (some ⟨gb, 0, none⟩) n c, .int .i64 Ds, .int .i64 Ev], fun v_ w_ => v_ = .agg #[.string s0, .string s1, .string s2, .string s3, .int .i64 n1, .int .i64 n2, .int .i64 n3, .int .i64 n4, .int .i64 n5, .slice pa pn pc, .int .i64 X, .int .i64 Y, .int .i64 Z, .int .i64 T, .int .i64 Mi, .int .i64 Lo, .int .i64 A1, .int .i64 A2, .int .i64 A3, .int .i64 A4, .int .i64 A5, .int .i64 A6, .int .i64 L, .int .i64 H, .int .i64 C], fun v_ w_ => v_ = .agg #[.string s0, .string s1, .string s2, .string s3, .int .i64 n1, .int .i64 n2, .int .i64 n3, .int .i64 n4, .int .i64 n5, .slice pa pn pc, .int .i64 X, .int .i64 Y, .int .i64 Z, .int .i64 T, .int .i64 Mi, .int .i64 Lo, .int .i64 A1, .int .i64 A2, .int .i64 A3, .int .i64 A4, .int .i64 A5, .int .i64 A6, .int .i64 L, .int .i64 H, .int .i64 C], fun v_ w_ => v_ = .bool false, fun v_ w_ => v_ = .bool false, fun v_ w_ => v_ = .agg #[.slice (some ⟨gb, 0, none⟩) n c, .int .i64 Ds, .int .i64 Ev], fun v_ w_ => v_ = .agg #[.string s0, .string s1, .string s2, .string s3, .int .i64 n1, .int .i64 n2, .int .i64 n3, .int .i64 n4, .int .i64 n5, .slice pa pn pc, .int .i64 X, .int .i64 Y, .int .i64 Z, .int .i64 T, .int .i64 Mi, .int .i64 Lo, .int .i64 A1, .int .i64 A2, .int .i64 A3, .int .i64 A4, .int .i64 A5, .int .i64 A6, .int .i64 L, .int .i64 H, .int .i64 C], fun v_ w_ => v_ = .agg #[.string s0x, .string s1x, .string s2x, .string s3x, .int .i64 n1x, .int .i64 n2x, .int .i64 n3x, .int .i64 n4x, .int .i64 n5x, .slice pax pnx pcx, .int .i64 Xx, .int .i64 Yx, .int .i64 Zx, .int .i64 Tx, .int .i64 Mix, .int .i64 Lox, .int .i64 A1x, .int .i64 A2x, .int .i64 A3x, .int .i64 A4x, .int .i64 A5x, .int .i64 A6x, .int .i64 Lx, .int .i64 Hx, .int .i64 Cx], fun v_ w_ => v_ = .bool m, fun v_ w_ => v_ = .agg #[.slice (some ⟨gb, 0, none⟩) n c, .int .i64 Ds, .int .i64 Ev], fun v_ w_ => v_ = .agg #[.string s0x, .string s1x, .string s2x, .string s3x, .int .i64 n1x, .int .i64 n2x, .int .i64 n3x, .int .i64 n4x, .int .i64 n5x, .slice pax pnx pcx, .int .i64 Xx, .int .i64 Yx, .int .i64 Zx, .int .i64 Tx, .int .i64 Mix, .int .i64 Lox, .int .i64 A1x, .int .i64 A2x, .int .i64 A3x, .int .i64 A4x, .int .i64 A5x, .int .i64 A6x, .int .i64 Lx, .int .i64 Hx, .int .i64 Cx], fun v_ w_ => v_ = .agg #[.string s0, .string s1, .string s2, .string s3, .int .i64 n1, .int .i64 n2, .int .i64 n3, .int .i64 n4, .int .i64 n5, .slice pa pn pc, .int .i64 X, .int .i64 Y, .int .i64 Z, .int .i64 T, .int .i64 Mi, .int .i64 Lo, .int .i64 A1, .int .i64 A2, .int .i64 A3, .int .i64 A4, .int .i64 A5, .int .i64 A6, .int .i64 L, .int .i64 H, .int .i64 C], fun v_ w_ => v_ = .bool m, fun v_ w_ => v_ = .bool false, fun v_ w_ => v_ = .bool false] : List (Value → World → Prop)).getD k (fun _ _ => True)) _ (fun σ => by simp only [Inv.putAll, List.foldl_cons, List.foldl_nil, Act.put, List.setIfInBounds_toArray, List.set_cons_zero, List.set_cons_succ]; rfl) (by kernel_rfl) (by kernel_rfl) ?_ (BC0.out.drew) ?_ ?_ 0 #[true, true, true, true, true, true, true, true, true, true, true, true, true, true, true] (by kernel_rfl) (by kernel_rfl) ?_
  · intro j k v w1 w2 hjk hv hr
    rcases k with _ | k
    · exact hv
    rcases k with _ | k
    · exact hv
    rcases k with _ | k
    · exact hv
    rcases k with _ | k
    · exact hv
    rcases k with _ | k
    · exact hv
    rcases k with _ | k
    · exact hv
    rcases k with _ | k
    · exact hv
    rcases k with _ | k
    · exact hv
    rcases k with _ | k
    · exact hv
    rcases k with _ | k
    · exact hv
    rcases k with _ | k
    · exact hv
    rcases k with _ | k
    · exact hv
    rcases k with _ | k
    · exact hv
    rcases k with _ | k
    · exact hv
    rcases k with _ | k
    · exact hv
    · exact hv
  · intro k t hl hd
    rcases k with _ | k
    · exact absurd hl (by decide +kernel)
    rcases k with _ | k
    · exact absurd hl (by decide +kernel)
    rcases k with _ | k
    · exact absurd hl (by decide +kernel)
    rcases k with _ | k
    · exact absurd hl (by decide +kernel)
    rcases k with _ | k
    · exact absurd hl (by decide +kernel)
    rcases k with _ | k
    · exact absurd hl (by decide +kernel)
    rcases k with _ | k
    · exact absurd hl (by decide +kernel)
    rcases k with _ | k
    · exact absurd hl (by decide +kernel)
    rcases k with _ | k
    · exact absurd hl (by decide +kernel)
    rcases k with _ | k
    · exact absurd hl (by decide +kernel)
    rcases k with _ | k
    · exact absurd hl (by decide +kernel)
    rcases k with _ | k
    · exact absurd hl (by decide +kernel)
    rcases k with _ | k
    · exact absurd hl (by decide +kernel)
    rcases k with _ | k
    · exact absurd hl (by decide +kernel)
    rcases k with _ | k
    · exact absurd hl (by decide +kernel)
    · simp at hd
  · show Inv.Steps _ _ _ _ _ _ _ _ [0, 1, 2, 3, 4, 5, 6, 7, 8, 9, 10, 11, 12, 13, 14]
    refine Inv.Steps.go (by decide) (by rfl) (fun σ wx hw hd K hK => ?_) ?_
    · simp only [List.getElem_toArray, List.getElem_cons_zero, List.getElem_cons_succ, Act.put, List.setIfInBounds_toArray, List.set_cons_zero, List.set_cons_succ] at hK ⊢
      have hQ := Q0.out _ hw
      refine wp_load_row 27 (.tmp 4) rfl v2.heap.size rfl 27 #[.slice (some ⟨gb, 0, none⟩) n c, .int .i64 Ds, .int .i64 Ev] (0, 0) _ hQ rfl rfl rfl ?_
      simp only [Act.put, List.setIfInBounds_toArray, List.set_cons_zero, List.set_cons_succ]
      exact hK.out _ _ hw trivial (rfl)
    refine Inv.Steps.go (by decide) (by rfl) (fun σ wx hw hd K hK => ?_) ?_
    · simp only [List.getElem_toArray, List.getElem_cons_zero, List.getElem_cons_succ, Act.put, List.setIfInBounds_toArray, List.set_cons_zero, List.set_cons_succ] at hK ⊢
      have hQ := Q1.out _ hw
      refine wp_load_row 45 (.tmp 5) rfl (v2.heap.size + 1) rfl 45 #[.string s0, .string s1, .string s2, .string s3, .int .i64 n1, .int .i64 n2, .int .i64 n3, .int .i64 n4, .int .i64 n5, .slice pa pn pc, .int .i64 X, .int .i64 Y, .int .i64 Z, .int .i64 T, .int .i64 Mi, .int .i64 Lo, .int .i64 A1, .int .i64 A2, .int .i64 A3, .int .i64 A4, .int .i64 A5, .int .i64 A6, .int .i64 L, .int .i64 H, .int .i64 C] (0, 0) _ hQ rfl rfl rfl ?_
      simp only [Act.put, List.setIfInBounds_toArray, List.set_cons_zero, List.set_cons_succ]
      exact hK.out _ _ hw trivial (rfl)
    refine Inv.Steps.go (by decide) (by rfl) (fun σ wx hw hd K hK => ?_) ?_
    · simp only [List.getElem_toArray, List.getElem_cons_zero, List.getElem_cons_succ, Act.put, List.setIfInBounds_toArray, List.set_cons_zero, List.set_cons_succ] at hK ⊢
      have hQ := Q1.out _ hw
      refine wp_load_row 45 (.tmp 5) rfl (v2.heap.size + 1) rfl 45 #[.string s0, .string s1, .string s2, .string s3, .int .i64 n1, .int .i64 n2, .int .i64 n3, .int .i64 n4, .int .i64 n5, .slice pa pn pc, .int .i64 X, .int .i64 Y, .int .i64 Z, .int .i64 T, .int .i64 Mi, .int .i64 Lo, .int .i64 A1, .int .i64 A2, .int .i64 A3, .int .i64 A4, .int .i64 A5, .int .i64 A6, .int .i64 L, .int .i64 H, .int .i64 C] (0, 0) _ hQ rfl rfl rfl ?_
      simp only [Act.put, List.setIfInBounds_toArray, List.set_cons_zero, List.set_cons_succ]
      exact hK.out _ _ hw trivial (rfl)
    refine Inv.Steps.go (by decide) (by rfl) (fun σ wx hw hd K hK => ?_) ?_
    · obtain e15 : (σ 15) = .agg #[.slice (some ⟨gb, 0, none⟩) n c, .int .i64 Ds, .int .i64 Ev] := hd 0 (some 15) (by kernel_rfl) (by rfl)
      obtain e16 : (σ 16) = .agg #[.string s0, .string s1, .string s2, .string s3, .int .i64 n1, .int .i64 n2, .int .i64 n3, .int .i64 n4, .int .i64 n5, .slice pa pn pc, .int .i64 X, .int .i64 Y, .int .i64 Z, .int .i64 T, .int .i64 Mi, .int .i64 Lo, .int .i64 A1, .int .i64 A2, .int .i64 A3, .int .i64 A4, .int .i64 A5, .int .i64 A6, .int .i64 L, .int .i64 H, .int .i64 C] := hd 1 (some 16) (by kernel_rfl) (by rfl)
      obtain e17 : (σ 17) = .agg #[.string s0, .string s1, .string s2, .string s3, .int .i64 n1, .int .i64 n2, .int .i64 n3, .int .i64 n4, .int .i64 n5, .slice pa pn pc, .int .i64 X, .int .i64 Y, .int .i64 Z, .int .i64 T, .int .i64 Mi, .int .i64 Lo, .int .i64 A1, .int .i64 A2, .int .i64 A3, .int .i64 A4, .int .i64 A5, .int .i64 A6, .int .i64 L, .int .i64 H, .int .i64 C] := hd 2 (some 17) (by kernel_rfl) (by rfl)
      simp only [List.getElem_toArray, List.getElem_cons_zero, List.getElem_cons_succ, Act.put, List.setIfInBounds_toArray, List.set_cons_zero, List.set_cons_succ, e15, e16, e17] at hK ⊢
      go_simp
      go_at_call 13
      refine (CAA.out _ hw).mono ?_
      rintro e w1 ⟨rfl, hb⟩
      dsimp only
      exact hK.out _ _ (hw.trans (hb.mono hw.size)) trivial (rfl)
    refine Inv.Steps.go (by decide) (by rfl) (fun σ wx hw hd K hK => ?_) ?_
    · obtain e18 : (σ 18) = .bool false := hd 3 (some 18) (by kernel_rfl) (by rfl)
      simp only [List.getElem_toArray, List.getElem_cons_zero, List.getElem_cons_succ, Act.put, List.setIfInBounds_toArray, List.set_cons_zero, List.set_cons_succ, e18] at hK ⊢
      go_simp
      exact hK.out _ _ hw trivial (rfl)
    refine Inv.Steps.on (by decide) 4 19 false (by rfl) (by rfl) (fun σ wx hw hd => ?_) ?_
    · obtain e19 : (σ 19) = .bool false := hd 4 (some 19) (by kernel_rfl) (by rfl)
      refine ⟨by simp [e19], fun K hK => ?_⟩
      simp only [List.getElem_toArray, List.getElem_cons_zero, List.getElem_cons_succ, Act.put, List.setIfInBounds_toArray, List.set_cons_zero, List.set_cons_succ] at hK ⊢
      have hQ := Q0.out _ hw
      refine wp_load_row 27 (.tmp 4) rfl v2.heap.size rfl 27 #[.slice (some ⟨gb, 0, none⟩) n c, .int .i64 Ds, .int .i64 Ev] (0, 0) _ hQ rfl rfl rfl ?_
      simp only [Act.put, List.setIfInBounds_toArray, List.set_cons_zero, List.set_cons_succ]
      exact hK.out _ _ hw trivial (rfl)
    refine Inv.Steps.on (by decide) 4 19 false (by rfl) (by rfl) (fun σ wx hw hd => ?_) ?_
    · obtain e19 : (σ 19) = .bool false := hd 4 (some 19) (by kernel_rfl) (by rfl)
      refine ⟨by simp [e19], fun K hK => ?_⟩
      simp only [List.getElem_toArray, List.getElem_cons_zero, List.getElem_cons_succ, Act.put, List.setIfInBounds_toArray, List.set_cons_zero, List.set_cons_succ] at hK ⊢
      have hQ := Q1.out _ hw
      refine wp_load_row 45 (.tmp 5) rfl (v2.heap.size + 1) rfl 45 #[.string s0, .string s1, .string s2, .string s3, .int .i64 n1, .int .i64 n2, .int .i64 n3, .int .i64 n4, .int .i64 n5, .slice pa pn pc, .int .i64 X, .int .i64 Y, .int .i64 Z, .int .i64 T, .int .i64 Mi, .int .i64 Lo, .int .i64 A1, .int .i64 A2, .int .i64 A3, .int .i64 A4, .int .i64 A5, .int .i64 A6, .int .i64 L, .int .i64 H, .int .i64 C] (0, 0) _ hQ rfl rfl rfl ?_
      simp only [Act.put, List.setIfInBounds_toArray, List.set_cons_zero, List.set_cons_succ]
      exact hK.out _ _ hw trivial (rfl)
    refine Inv.Steps.on (by decide) 4 19 false (by rfl) (by rfl) (fun σ wx hw hd => ?_) ?_
    · obtain e19 : (σ 19) = .bool false := hd 4 (some 19) (by kernel_rfl) (by rfl)
      refine ⟨by simp [e19], fun K hK => ?_⟩
      simp only [List.getElem_toArray, List.getElem_cons_zero, List.getElem_cons_succ, Act.put, List.setIfInBounds_toArray, List.set_cons_zero, List.set_cons_succ] at hK ⊢
      have hQ := Q2.out _ hw
      refine wp_load_row 45 (.tmp 6) rfl ((v2.heap.size + 1) + 1) rfl 45 #[.string s0x, .string s1x, .string s2x, .string s3x, .int .i64 n1x, .int .i64 n2x, .int .i64 n3x, .int .i64 n4x, .int .i64 n5x, .slice pax pnx pcx, .int .i64 Xx, .int .i64 Yx, .int .i64 Zx, .int .i64 Tx, .int .i64 Mix, .int .i64 Lox, .int .i64 A1x, .int .i64 A2x, .int .i64 A3x, .int .i64 A4x, .int .i64 A5x, .int .i64 A6x, .int .i64 Lx, .int .i64 Hx, .int .i64 Cx] (0, 0) _ hQ rfl rfl rfl ?_
      simp only [Act.put, List.setIfInBounds_toArray, List.set_cons_zero, List.set_cons_succ]
      exact hK.out _ _ hw trivial (rfl)
    refine Inv.Steps.on (by decide) 4 19 false (by rfl) (by rfl) (fun σ wx hw hd => ?_) ?_
    · obtain e19 : (σ 19) = .bool false := hd 4 (some 19) (by kernel_rfl) (by rfl)
      obtain e20 : (σ 20) = .agg #[.slice (some ⟨gb, 0, none⟩) n c, .int .i64 Ds, .int .i64 Ev] := hd 5 (some 20) (by kernel_rfl) (by rfl)
      obtain e21 : (σ 21) = .agg #[.string s0, .string s1, .string s2, .string s3, .int .i64 n1, .int .i64 n2, .int .i64 n3, .int .i64 n4, .int .i64 n5, .slice pa pn pc, .int .i64 X, .int .i64 Y, .int .i64 Z, .int .i64 T, .int .i64 Mi, .int .i64 Lo, .int .i64 A1, .int .i64 A2, .int .i64 A3, .int .i64 A4, .int .i64 A5, .int .i64 A6, .int .i64 L, .int .i64 H, .int .i64 C] := hd 6 (some 21) (by kernel_rfl) (by rfl)
      obtain e22 : (σ 22) = .agg #[.string s0x, .string s1x, .string s2x, .string s3x, .int .i64 n1x, .int .i64 n2x, .int .i64 n3x, .int .i64 n4x, .int .i64 n5x, .slice pax pnx pcx, .int .i64 Xx, .int .i64 Yx, .int .i64 Zx, .int .i64 Tx, .int .i64 Mix, .int .i64 Lox, .int .i64 A1x, .int .i64 A2x, .int .i64 A3x, .int .i64 A4x, .int .i64 A5x, .int .i64 A6x, .int .i64 Lx, .int .i64 Hx, .int .i64 Cx] := hd 7 (some 22) (by kernel_rfl) (by rfl)
      refine ⟨by simp [e19], fun K hK => ?_⟩
      simp only [List.getElem_toArray, List.getElem_cons_zero, List.getElem_cons_succ, Act.put, List.setIfInBounds_toArray, List.set_cons_zero, List.set_cons_succ, e19, e20, e21, e22] at hK ⊢
      go_simp
      go_at_call 13
      refine (CAB.out _ hw).mono ?_
      rintro e w1 ⟨rfl, hb⟩
      dsimp only
      exact hK.out _ _ (hw.trans (hb.mono hw.size)) trivial (rfl)
    refine Inv.Steps.on (by decide) 4 19 false (by rfl) (by rfl) (fun σ wx hw hd => ?_) ?_
    · obtain e19 : (σ 19) = .bool false := hd 4 (some 19) (by kernel_rfl) (by rfl)
      refine ⟨by simp [e19], fun K hK => ?_⟩
      simp only [List.getElem_toArray, List.getElem_cons_zero, List.getElem_cons_succ, Act.put, List.setIfInBounds_toArray, List.set_cons_zero, List.set_cons_succ] at hK ⊢
      have hQ := Q0.out _ hw
      refine wp_load_row 27 (.tmp 4) rfl v2.heap.size rfl 27 #[.slice (some ⟨gb, 0, none⟩) n c, .int .i64 Ds, .int .i64 Ev] (0, 0) _ hQ rfl rfl rfl ?_
      simp only [Act.put, List.setIfInBounds_toArray, List.set_cons_zero, List.set_cons_succ]
      exact hK.out _ _ hw trivial (rfl)
    refine Inv.Steps.on (by decide) 4 19 false (by rfl) (by rfl) (fun σ wx hw hd => ?_) ?_
    · obtain e19 : (σ 19) = .bool false := hd 4 (some 19) (by kernel_rfl) (by rfl)
      refine ⟨by simp [e19], fun K hK => ?_⟩
      simp only [List.getElem_toArray, List.getElem_cons_zero, List.getElem_cons_succ, Act.put, List.setIfInBounds_toArray, List.set_cons_zero, List.set_cons_succ] at hK ⊢
      have hQ := Q2.out _ hw
      refine wp_load_row 45 (.tmp 6) rfl ((v2.heap.size + 1) + 1) rfl 45 #[.string s0x, .string s1x, .string s2x, .string s3x, .int .i64 n1x, .int .i64 n2x, .int .i64 n3x, .int .i64 n4x, .int .i64 n5x, .slice pax pnx pcx, .int .i64 Xx, .int .i64 Yx, .int .i64 Zx, .int .i64 Tx, .int .i64 Mix, .int .i64 Lox, .int .i64 A1x, .int .i64 A2x, .int .i64 A3x, .int .i64 A4x, .int .i64 A5x, .int .i64 A6x, .int .i64 Lx, .int .i64 Hx, .int .i64 Cx] (0, 0) _ hQ rfl rfl rfl ?_
      simp only [Act.put, List.setIfInBounds_toArray, List.set_cons_zero, List.set_cons_succ]
      exact hK.out _ _ hw trivial (rfl)
    refine Inv.Steps.on (by decide) 4 19 false (by rfl) (by rfl) (fun σ wx hw hd => ?_) ?_
    · obtain e19 : (σ 19) = .bool false := hd 4 (some 19) (by kernel_rfl) (by rfl)
      refine ⟨by simp [e19], fun K hK => ?_⟩
      simp only [List.getElem_toArray, List.getElem_cons_zero, List.getElem_cons_succ, Act.put, List.setIfInBounds_toArray, List.set_cons_zero, List.set_cons_succ] at hK ⊢
      have hQ := Q1.out _ hw
      refine wp_load_row 45 (.tmp 5) rfl (v2.heap.size + 1) rfl 45 #[.string s0, .string s1, .string s2, .string s3, .int .i64 n1, .int .i64 n2, .int .i64 n3, .int .i64 n4, .int .i64 n5, .slice pa pn pc, .int .i64 X, .int .i64 Y, .int .i64 Z, .int .i64 T, .int .i64 Mi, .int .i64 Lo, .int .i64 A1, .int .i64 A2, .int .i64 A3, .int .i64 A4, .int .i64 A5, .int .i64 A6, .int .i64 L, .int .i64 H, .int .i64 C] (0, 0) _ hQ rfl rfl rfl ?_
      simp only [Act.put, List.setIfInBounds_toArray, List.set_cons_zero, List.set_cons_succ]
      exact hK.out _ _ hw trivial (rfl)
    refine Inv.Steps.on (by decide) 4 19 false (by rfl) (by rfl) (fun σ wx hw hd => ?_) ?_
    · obtain e19 : (σ 19) = .bool false := hd 4 (some 19) (by kernel_rfl) (by rfl)
      obtain e24 : (σ 24) = .agg #[.slice (some ⟨gb, 0, none⟩) n c, .int .i64 Ds, .int .i64 Ev] := hd 9 (some 24) (by kernel_rfl) (by rfl)
      obtain e25 : (σ 25) = .agg #[.string s0x, .string s1x, .string s2x, .string s3x, .int .i64 n1x, .int .i64 n2x, .int .i64 n3x, .int .i64 n4x, .int .i64 n5x, .slice pax pnx pcx, .int .i64 Xx, .int .i64 Yx, .int .i64 Zx, .int .i64 Tx, .int .i64 Mix, .int .i64 Lox, .int .i64 A1x, .int .i64 A2x, .int .i64 A3x, .int .i64 A4x, .int .i64 A5x, .int .i64 A6x, .int .i64 Lx, .int .i64 Hx, .int .i64 Cx] := hd 10 (some 25) (by kernel_rfl) (by rfl)
      obtain e26 : (σ 26) = .agg #[.string s0, .string s1, .string s2, .string s3, .int .i64 n1, .int .i64 n2, .int .i64 n3, .int .i64 n4, .int .i64 n5, .slice pa pn pc, .int .i64 X, .int .i64 Y, .int .i64 Z, .int .i64 T, .int .i64 Mi, .int .i64 Lo, .int .i64 A1, .int .i64 A2, .int .i64 A3, .int .i64 A4, .int .i64 A5, .int .i64 A6, .int .i64 L, .int .i64 H, .int .i64 C] := hd 11 (some 26) (by kernel_rfl) (by rfl)
      refine ⟨by simp [e19], fun K hK => ?_⟩
      simp only [List.getElem_toArray, List.getElem_cons_zero, List.getElem_cons_succ, Act.put, List.setIfInBounds_toArray, List.set_cons_zero, List.set_cons_succ, e19, e24, e25, e26] at hK ⊢
      go_simp
      go_at_call 13
      refine (CBA.out _ hw).mono ?_
      rintro e w1 ⟨rfl, hb⟩
      dsimp only
      exact hK.out _ _ (hw.trans (hb.mono hw.size)) trivial (rfl)
    refine Inv.Steps.on (by decide) 4 19 false (by rfl) (by rfl) (fun σ wx hw hd => ?_) ?_
    · obtain e19 : (σ 19) = .bool false := hd 4 (some 19) (by kernel_rfl) (by rfl)
      obtain e23 : (σ 23) = .bool m := hd 8 (some 23) (by kernel_rfl) (by rfl)
      obtain e27 : (σ 27) = .bool m := hd 12 (some 27) (by kernel_rfl) (by rfl)
      refine ⟨by simp [e19], fun K hK => ?_⟩
      simp only [List.getElem_toArray, List.getElem_cons_zero, List.getElem_cons_succ, Act.put, List.setIfInBounds_toArray, List.set_cons_zero, List.set_cons_succ, e19, e23, e27] at hK ⊢
      go_simp
      exact hK.out _ _ hw trivial (rfl)
    refine Inv.Steps.go (by decide) (by rfl) (fun σ wx hw hd K hK => ?_) ?_
    · obtain e19 : (σ 19) = .bool false := hd 4 (some 19) (by kernel_rfl) (by rfl)
      obtain e28 : (σ 28) = .bool false := hd 13 (some 28) (by kernel_rfl) (by rfl)
      simp only [List.getElem_toArray, List.getElem_cons_zero, List.getElem_cons_succ, Act.put, List.setIfInBounds_toArray, List.set_cons_zero, List.set_cons_succ, e19, e28] at hK ⊢
      go_simp
      exact hK.out _ _ hw trivial (rfl)
    exact Inv.Steps.nil
  · intro σ wx hw hd
    obtain e29 : (σ 29) = .bool false := hd 14 (some 29) (by rfl) (by rfl)
    refine Inv.done (by kernel_rfl) (NoPanic.normal ?_)
    rw [e29]
    clear hd e29
    go_wp2_with fail
    by_cases hl : la = lb
    · subst hl
      refine wp_region_noPanic ?_
      refine wp_region_any (by kernel_rfl) ?_
      clear CAA CAB CBA
      refine Inv.wpAny_inv (fun k => false) [30, 31, 32, 33, 34, 35, 36, 37, 38, 39, 40, 41, 42, 43, 44, 45, 2] (fun w' => Below wB.heap.size wB w') (fun _ _ _ => True) (fun k => ([fun v_ w_ => v_ = .agg #[.slice (some ⟨gb, 0, none⟩) n c, .int .i64 Ds, .int .i64 Ev], fun v_ w_ => v_ = .agg #[.string s0, .string s1, .string s2, .string s3, .int .i64 n1, .int .i64 n2, .int .i64 n3, .int .i64 n4, .int .i64 n5, .slice pa pn pc, .int .i64 X, .int .i64 Y, .int .i64 Z, .int .i64 T, .int .i64 Mi, .int .i64 Lo, .int .i64 A1, .int .i64 A2, .int .i64 A3, .int .i64 A4, .int .i64 A5, .int .i64 A6, .int .i64 L, .int .i64 H, .int .i64 C], fun v_ w_ => v_ = .int .i64 (la : Nat), fun v_ w_ => v_ = .agg #[.slice (some ⟨gb, 0, none⟩) n c, .int .i64 Ds, .int .i64 Ev], fun v_ w_ => v_ = .agg #[.string s0x, .string s1x, .string s2x, .string s3x, .int .i64 n1x, .int .i64 n2x, .int .i64 n3x, .int .i64 n4x, .int .i64 n5x, .slice pax pnx pcx, .int .i64 Xx, .int .i64 Yx, .int .i64 Zx, .int .i64 Tx, .int .i64 Mix, .int .i64 Lox, .int .i64 A1x, .int .i64 A2x, .int .i64 A3x, .int .i64 A4x, .int .i64 A5x, .int .i64 A6x, .int .i64 Lx, .int .i64 Hx, .int .i64 Cx], fun v_ w_ => v_ = .int .i64 (la : Nat), fun v_ w_ => v_ = .bool true, fun v_ w_ => v_ = .bool true, fun v_ w_ => True, fun v_ w_ => True, fun v_ w_ => True, fun v_ w_ => True, fun v_ w_ => v_ = .bool true, fun v_ w_ => v_ = .bool true, fun v_ w_ => v_ = .bool true, fun v_ w_ => v_ = .bool true, fun v_ w_ => v_ = .bool true] : List (Value → World → Prop)).getD k (fun _ _ => True)) _ (fun σ => by simp only [Inv.putAll, List.foldl_cons, List.foldl_nil, Act.put, List.setIfInBounds_toArray, List.set_cons_zero, List.set_cons_succ]; rfl) (by kernel_rfl) (by kernel_rfl) ?_ (hw.drew) ?_ ?_ 0 #[true, true, true, true, true, true, true, true, true, true, true, true, true, true, true, true, true] (by kernel_rfl) (by kernel_rfl) ?_
      · intro j k v w1 w2 hjk hv hr
        rcases k with _ | k
        · exact hv
        rcases k with _ | k
        · exact hv
        rcases k with _ | k
        · exact hv
        rcases k with _ | k
        · exact hv
        rcases k with _ | k
        · exact hv
        rcases k with _ | k
        · exact hv
        rcases k with _ | k
        · exact hv
        rcases k with _ | k
        · exact hv
        rcases k with _ | k
        · exact hv
        rcases k with _ | k
        · exact hv
        rcases k with _ | k
        · exact hv
        rcases k with _ | k
        · exact hv
        rcases k with _ | k
        · exact hv
        rcases k with _ | k
        · exact hv
        rcases k with _ | k
        · exact hv
        rcases k with _ | k
        · exact hv
        rcases k with _ | k
        · exact hv
        · exact hv
      · intro k t hl hd
        rcases k with _ | k
        · exact absurd hl (by decide +kernel)
        rcases k with _ | k
        · exact absurd hl (by decide +kernel)
        rcases k with _ | k
        · exact absurd hl (by decide +kernel)
        rcases k with _ | k
        · exact absurd hl (by decide +kernel)
        rcases k with _ | k
        · exact absurd hl (by decide +kernel)
        rcases k with _ | k
        · exact absurd hl (by decide +kernel)
        rcases k with _ | k
        · exact absurd hl (by decide +kernel)
        rcases k with _ | k
        · exact absurd hl (by decide +kernel)
        rcases k with _ | k
        · exact absurd hl (by decide +kernel)
        rcases k with _ | k
        · exact absurd hl (by decide +kernel)
        rcases k with _ | k
        · exact absurd hl (by decide +kernel)
        rcases k with _ | k
        · exact absurd hl (by decide +kernel)
        rcases k with _ | k
        · exact absurd hl (by decide +kernel)
        rcases k with _ | k
        · exact absurd hl (by decide +kernel)
        rcases k with _ | k
        · exact absurd hl (by decide +kernel)
        rcases k with _ | k
        · exact absurd hl (by decide +kernel)
        rcases k with _ | k
        · exact absurd hl (by decide +kernel)
        · simp at hd
      · show Inv.Steps _ _ _ _ _ _ _ _ [0, 1, 2, 3, 4, 5, 6, 7, 8, 9, 10, 11, 12, 13, 14, 15, 16]
        refine Inv.Steps.go (by decide) (by rfl) (fun σ wx hw hd K hK => ?_) ?_
        · simp only [List.getElem_toArray, List.getElem_cons_zero, List.getElem_cons_succ, Act.put, List.setIfInBounds_toArray, List.set_cons_zero, List.set_cons_succ] at hK ⊢
          have hQ := Q0.out _ hw
          refine wp_load_row 27 (.tmp 4) rfl v2.heap.size rfl 27 #[.slice (some ⟨gb, 0, none⟩) n c, .int .i64 Ds, .int .i64 Ev] (0, 0) _ hQ rfl rfl rfl ?_
          simp only [Act.put, List.setIfInBounds_toArray, List.set_cons_zero, List.set_cons_succ]
          exact hK.out _ _ hw trivial (rfl)
        refine Inv.Steps.go (by decide) (by rfl) (fun σ wx hw hd K hK => ?_) ?_
        · simp only [List.getElem_toArray, List.getElem_cons_zero, List.getElem_cons_succ, Act.put, List.setIfInBounds_toArray, List.set_cons_zero, List.set_cons_succ] at hK ⊢
          have hQ := Q1.out _ hw
          refine wp_load_row 45 (.tmp 5) rfl (v2.heap.size + 1) rfl 45 #[.string s0, .string s1, .string s2, .string s3, .int .i64 n1, .int .i64 n2, .int .i64 n3, .int .i64 n4, .int .i64 n5, .slice pa pn pc, .int .i64 X, .int .i64 Y, .int .i64 Z, .int .i64 T, .int .i64 Mi, .int .i64 Lo, .int .i64 A1, .int .i64 A2, .int .i64 A3, .int .i64 A4, .int .i64 A5, .int .i64 A6, .int .i64 L, .int .i64 H, .int .i64 C] (0, 0) _ hQ rfl rfl rfl ?_
          simp only [Act.put, List.setIfInBounds_toArray, List.set_cons_zero, List.set_cons_succ]
          exact hK.out _ _ hw trivial (rfl)
        refine Inv.Steps.go (by decide) (by rfl) (fun σ wx hw hd K hK => ?_) ?_
        · obtain e30 : (σ 30) = .agg #[.slice (some ⟨gb, 0, none⟩) n c, .int .i64 Ds, .int .i64 Ev] := hd 0 (some 30) (by kernel_rfl) (by rfl)
          obtain e31 : (σ 31) = .agg #[.string s0, .string s1, .string s2, .string s3, .int .i64 n1, .int .i64 n2, .int .i64 n3, .int .i64 n4, .int .i64 n5, .slice pa pn pc, .int .i64 X, .int .i64 Y, .int .i64 Z, .int .i64 T, .int .i64 Mi, .int .i64 Lo, .int .i64 A1, .int .i64 A2, .int .i64 A3, .int .i64 A4, .int .i64 A5, .int .i64 A6, .int .i64 L, .int .i64 H, .int .i64 C] := hd 1 (some 31) (by kernel_rfl) (by rfl)
          simp only [List.getElem_toArray, List.getElem_cons_zero, List.getElem_cons_succ, Act.put, List.setIfInBounds_toArray, List.set_cons_zero, List.set_cons_succ, e30, e31] at hK ⊢
          go_simp
          go_at_call 11
          refine (CLA.out _ hw).mono ?_
          rintro e w1 ⟨rfl, hb⟩
          dsimp only
          exact hK.out _ _ (hw.trans (hb.mono hw.size)) trivial (rfl)
        refine Inv.Steps.go (by decide) (by rfl) (fun σ wx hw hd K hK => ?_) ?_
        · simp only [List.getElem_toArray, List.getElem_cons_zero, List.getElem_cons_succ, Act.put, List.setIfInBounds_toArray, List.set_cons_zero, List.set_cons_succ] at hK ⊢
          have hQ := Q0.out _ hw
          refine wp_load_row 27 (.tmp 4) rfl v2.heap.size rfl 27 #[.slice (some ⟨gb, 0, none⟩) n c, .int .i64 Ds, .int .i64 Ev] (0, 0) _ hQ rfl rfl rfl ?_
          simp only [Act.put, List.setIfInBounds_toArray, List.set_cons_zero, List.set_cons_succ]
          exact hK.out _ _ hw trivial (rfl)
        refine Inv.Steps.go (by decide) (by rfl) (fun σ wx hw hd K hK => ?_) ?_
        · simp only [List.getElem_toArray, List.getElem_cons_zero, List.getElem_cons_succ, Act.put, List.setIfInBounds_toArray, List.set_cons_zero, List.set_cons_succ] at hK ⊢
          have hQ := Q2.out _ hw
          refine wp_load_row 45 (.tmp 6) rfl ((v2.heap.size + 1) + 1) rfl 45 #[.string s0x, .string s1x, .string s2x, .string s3x, .int .i64 n1x, .int .i64 n2x, .int .i64 n3x, .int .i64 n4x, .int .i64 n5x, .slice pax pnx pcx, .int .i64 Xx, .int .i64 Yx, .int .i64 Zx, .int .i64 Tx, .int .i64 Mix, .int .i64 Lox, .int .i64 A1x, .int .i64 A2x, .int .i64 A3x, .int .i64 A4x, .int .i64 A5x, .int .i64 A6x, .int .i64 Lx, .int .i64 Hx, .int .i64 Cx] (0, 0) _ hQ rfl rfl rfl ?_
          simp only [Act.put, List.setIfInBounds_toArray, List.set_cons_zero, List.set_cons_succ]
          exact hK.out _ _ hw trivial (rfl)
        refine Inv.Steps.go (by decide) (by rfl) (fun σ wx hw hd K hK => ?_) ?_
        · obtain e33 : (σ 33) = .agg #[.slice (some ⟨gb, 0, none⟩) n c, .int .i64 Ds, .int .i64 Ev] := hd 3 (some 33) (by kernel_rfl) (by rfl)
          obtain e34 : (σ 34) = .agg #[.string s0x, .string s1x, .string s2x, .string s3x, .int .i64 n1x, .int .i64 n2x, .int .i64 n3x, .int .i64 n4x, .int .i64 n5x, .slice pax pnx pcx, .int .i64 Xx, .int .i64 Yx, .int .i64 Zx, .int .i64 Tx, .int .i64 Mix, .int .i64 Lox, .int .i64 A1x, .int .i64 A2x, .int .i64 A3x, .int .i64 A4x, .int .i64 A5x, .int .i64 A6x, .int .i64 Lx, .int .i64 Hx, .int .i64 Cx] := hd 4 (some 34) (by kernel_rfl) (by rfl)
          simp only [List.getElem_toArray, List.getElem_cons_zero, List.getElem_cons_succ, Act.put, List.setIfInBounds_toArray, List.set_cons_zero, List.set_cons_succ, e33, e34] at hK ⊢
          go_simp
          go_at_call 11
          refine (CLB.out _ hw).mono ?_
          rintro e w1 ⟨rfl, hb⟩
          dsimp only
          exact hK.out _ _ (hw.trans (hb.mono hw.size)) trivial (rfl)
        refine Inv.Steps.go (by decide) (by rfl) (fun σ wx hw hd K hK => ?_) ?_
        · obtain e32 : (σ 32) = .int .i64 (la : Nat) := hd 2 (some 32) (by kernel_rfl) (by rfl)
          obtain e35 : (σ 35) = .int .i64 (la : Nat) := hd 5 (some 35) (by kernel_rfl) (by rfl)
          simp only [List.getElem_toArray, List.getElem_cons_zero, List.getElem_cons_succ, Act.put, List.setIfInBounds_toArray, List.set_cons_zero, List.set_cons_succ, e32, e35] at hK ⊢
          go_simp
          exact hK.out _ _ hw trivial (rfl)
        refine Inv.Steps.go (by decide) (by rfl) (fun σ wx hw hd K hK => ?_) ?_
        · obtain e36 : (σ 36) = .bool true := hd 6 (some 36) (by kernel_rfl) (by rfl)
          simp only [List.getElem_toArray, List.getElem_cons_zero, List.getElem_cons_succ, Act.put, List.setIfInBounds_toArray, List.set_cons_zero, List.set_cons_succ, e36] at hK ⊢
          go_simp
          exact hK.out _ _ hw trivial (rfl)
        refine Inv.Steps.off (by decide) 7 37 false (.bool true) (by rfl) (by rfl) (by first | exact .inl rfl | exact .inr rfl) (fun σ wx hw hd => ?_) ?_
        · obtain e37 : (σ 37) = .bool true := hd 7 (some 37) (by kernel_rfl) (by rfl)
          exact ⟨by simp [e37], trivial, trivial⟩
        refine Inv.Steps.off (by decide) 7 37 false (.bool true) (by rfl) (by rfl) (by first | exact .inl rfl | exact .inr rfl) (fun σ wx hw hd => ?_) ?_
        · obtain e37 : (σ 37) = .bool true := hd 7 (some 37) (by kernel_rfl) (by rfl)
          exact ⟨by simp [e37], trivial, trivial⟩
        refine Inv.Steps.off (by decide) 7 37 false (.bool true) (by rfl) (by rfl) (by first | exact .inl rfl | exact .inr rfl) (fun σ wx hw hd => ?_) ?_
        · obtain e37 : (σ 37) = .bool true := hd 7 (some 37) (by kernel_rfl) (by rfl)
          exact ⟨by simp [e37], trivial, trivial⟩
        refine Inv.Steps.off (by decide) 7 37 false (.bool true) (by rfl) (by rfl) (by first | exact .inl rfl | exact .inr rfl) (fun σ wx hw hd => ?_) ?_
        · obtain e37 : (σ 37) = .bool true := hd 7 (some 37) (by kernel_rfl) (by rfl)
          exact ⟨by simp [e37], trivial, trivial⟩
        refine Inv.Steps.go (by decide) (by rfl) (fun σ wx hw hd K hK => ?_) ?_
        · obtain e37 : (σ 37) = .bool true := hd 7 (some 37) (by kernel_rfl) (by rfl)
          simp only [List.getElem_toArray, List.getElem_cons_zero, List.getElem_cons_succ, Act.put, List.setIfInBounds_toArray, List.set_cons_zero, List.set_cons_succ, e37] at hK ⊢
          go_simp
          exact hK.out _ _ hw trivial (rfl)
        refine Inv.Steps.go (by decide) (by rfl) (fun σ wx hw hd K hK => ?_) ?_
        · obtain e42 : (σ 42) = .bool true := hd 12 (some 42) (by kernel_rfl) (by rfl)
          simp only [List.getElem_toArray, List.getElem_cons_zero, List.getElem_cons_succ, Act.put, List.setIfInBounds_toArray, List.set_cons_zero, List.set_cons_succ, e42] at hK ⊢
          go_simp
          exact hK.out _ _ hw trivial (rfl)
        refine Inv.Steps.on (by decide) 13 43 true (by rfl) (by rfl) (fun σ wx hw hd => ?_) ?_
        · obtain e43 : (σ 43) = .bool true := hd 13 (some 43) (by kernel_rfl) (by rfl)
          refine ⟨by simp [e43], fun K hK => ?_⟩
          simp only [List.getElem_toArray, List.getElem_cons_zero, List.getElem_cons_succ, Act.put, List.setIfInBounds_toArray, List.set_cons_zero, List.set_cons_succ, e43] at hK ⊢
          go_simp
          go_at_call 12
          refine (awake_any wx).mono ?_
          rintro e w1 ⟨rfl, hb⟩
          dsimp only
          exact hK.out _ _ (hw.trans (hb.mono hw.size)) trivial (rfl)
        refine Inv.Steps.go (by decide) (by rfl) (fun σ wx hw hd K hK => ?_) ?_
        · obtain e43 : (σ 43) = .bool true := hd 13 (some 43) (by kernel_rfl) (by rfl)
          obtain e44 : (σ 44) = .bool true := hd 14 (some 44) (by kernel_rfl) (by rfl)
          simp only [List.getElem_toArray, List.getElem_cons_zero, List.getElem_cons_succ, Act.put, List.setIfInBounds_toArray, List.set_cons_zero, List.set_cons_succ, e43, e44] at hK ⊢
          go_simp
          exact hK.out _ _ hw trivial (rfl)
        refine Inv.Steps.go (by decide) (by rfl) (fun σ wx hw hd K hK => ?_) ?_
        · obtain e45 : (σ 45) = .bool true := hd 15 (some 45) (by kernel_rfl) (by rfl)
          simp only [List.getElem_toArray, List.getElem_cons_zero, List.getElem_cons_succ, Act.put, List.setIfInBounds_toArray, List.set_cons_zero, List.set_cons_succ, e45] at hK ⊢
          go_simp
          exact hK.out _ _ hw trivial (rfl)
        exact Inv.Steps.nil
      · intro σ wx hw hd
        obtain e2 : (σ 2) = .bool true := hd 16 (some 2) (by rfl) (by rfl)
        refine Inv.done (by kernel_rfl) (NoPanic.normal ?_)
        rw [e2]
        go_wp2_with fail
        go_ret
        exact ⟨rfl, BW.out.trans (hw.mono (by have := BW.out.size; omega))⟩
    · have hm1 := hml hl
      subst hm1
      have CABT := CAB
      have hne : ((la : Int) == (lb : Int)) = false := by rw [beq_eq_false_iff_ne]; omega
      refine wp_region_noPanic ?_
      refine wp_region_any (by kernel_rfl) ?_
      clear CAA CBA CAB
      refine Inv.wpAny_inv (fun k => false) [30, 31, 32, 33, 34, 35, 36, 37, 38, 39, 40, 41, 42, 43, 44, 45, 2] (fun w' => Below wB.heap.size wB w') (fun _ _ _ => True) (fun k => ([fun v_ w_ => v_ = .agg #[.slice (some ⟨gb, 0, none⟩) n c, .int .i64 Ds, .int .i64 Ev], fun v_ w_ => v_ = .agg #[.string s0, .string s1, .string s2, .string s3, .int .i64 n1, .int .i64 n2, .int .i64 n3, .int .i64 n4, .int .i64 n5, .slice pa pn pc, .int .i64 X, .int .i64 Y, .int .i64 Z, .int .i64 T, .int .i64 Mi, .int .i64 Lo, .int .i64 A1, .int .i64 A2, .int .i64 A3, .int .i64 A4, .int .i64 A5, .int .i64 A6, .int .i64 L, .int .i64 H, .int .i64 C], fun v_ w_ => v_ = .int .i64 (la : Nat), fun v_ w_ => v_ = .agg #[.slice (some ⟨gb, 0, none⟩) n c, .int .i64 Ds, .int .i64 Ev], fun v_ w_ => v_ = .agg #[.string s0x, .string s1x, .string s2x, .string s3x, .int .i64 n1x, .int .i64 n2x, .int .i64 n3x, .int .i64 n4x, .int .i64 n5x, .slice pax pnx pcx, .int .i64 Xx, .int .i64 Yx, .int .i64 Zx, .int .i64 Tx, .int .i64 Mix, .int .i64 Lox, .int .i64 A1x, .int .i64 A2x, .int .i64 A3x, .int .i64 A4x, .int .i64 A5x, .int .i64 A6x, .int .i64 Lx, .int .i64 Hx, .int .i64 Cx], fun v_ w_ => v_ = .int .i64 (lb : Nat), fun v_ w_ => v_ = .bool false, fun v_ w_ => v_ = .bool false, fun v_ w_ => v_ = .agg #[.slice (some ⟨gb, 0, none⟩) n c, .int .i64 Ds, .int .i64 Ev], fun v_ w_ => v_ = .agg #[.string s0, .string s1, .string s2, .string s3, .int .i64 n1, .int .i64 n2, .int .i64 n3, .int .i64 n4, .int .i64 n5, .slice pa pn pc, .int .i64 X, .int .i64 Y, .int .i64 Z, .int .i64 T, .int .i64 Mi, .int .i64 Lo, .int .i64 A1, .int .i64 A2, .int .i64 A3, .int .i64 A4, .int .i64 A5, .int .i64 A6, .int .i64 L, .int .i64 H, .int .i64 C], fun v_ w_ => v_ = .agg #[.string s0x, .string s1x, .string s2x, .string s3x, .int .i64 n1x, .int .i64 n2x, .int .i64 n3x, .int .i64 n4x, .int .i64 n5x, .slice pax pnx pcx, .int .i64 Xx, .int .i64 Yx, .int .i64 Zx, .int .i64 Tx, .int .i64 Mix, .int .i64 Lox, .int .i64 A1x, .int .i64 A2x, .int .i64 A3x, .int .i64 A4x, .int .i64 A5x, .int .i64 A6x, .int .i64 Lx, .int .i64 Hx, .int .i64 Cx], fun v_ w_ => v_ = .bool true, fun v_ w_ => v_ = .bool true, fun v_ w_ => v_ = .bool true, fun v_ w_ => v_ = .bool true, fun v_ w_ => v_ = .bool true, fun v_ w_ => v_ = .bool true] : List (Value → World → Prop)).getD k (fun _ _ => True)) _ (fun σ => by simp only [Inv.putAll, List.foldl_cons, List.foldl_nil, Act.put, List.setIfInBounds_toArray, List.set_cons_zero, List.set_cons_succ]; rfl) (by kernel_rfl) (by kernel_rfl) ?_ (hw.drew) ?_ ?_ 0 #[true, true, true, true, true, true, true, true, true, true, true, true, true, true, true, true, true] (by kernel_rfl) (by kernel_rfl) ?_
      · intro j k v w1 w2 hjk hv hr
        rcases k with _ | k
        · exact hv
        rcases k with _ | k
        · exact hv
        rcases k with _ | k
        · exact hv
        rcases k with _ | k
        · exact hv
        rcases k with _ | k
        · exact hv
        rcases k with _ | k
        · exact hv
        rcases k with _ | k
        · exact hv
        rcases k with _ | k
        · exact hv
        rcases k with _ | k
        · exact hv
        rcases k with _ | k
        · exact hv
        rcases k with _ | k
        · exact hv
        rcases k with _ | k
        · exact hv
        rcases k with _ | k
        · exact hv
        rcases k with _ | k
        · exact hv
        rcases k with _ | k
        · exact hv
        rcases k with _ | k
        · exact hv
        rcases k with _ | k
        · exact hv
        · exact hv
      · intro k t hl hd
        rcases k with _ | k
        · exact absurd hl (by decide +kernel)
        rcases k with _ | k
        · exact absurd hl (by decide +kernel)
        rcases k with _ | k
        · exact absurd hl (by decide +kernel)
        rcases k with _ | k
        · exact absurd hl (by decide +kernel)
        rcases k with _ | k
        · exact absurd hl (by decide +kernel)
        rcases k with _ | k
        · exact absurd hl (by decide +kernel)
        rcases k with _ | k
        · exact absurd hl (by decide +kernel)
        rcases k with _ | k
        · exact absurd hl (by decide +kernel)
        rcases k with _ | k
        · exact absurd hl (by decide +kernel)
        rcases k with _ | k
        · exact absurd hl (by decide +kernel)
        rcases k with _ | k
        · exact absurd hl (by decide +kernel)
        rcases k with _ | k
        · exact absurd hl (by decide +kernel)
        rcases k with _ | k
        · exact absurd hl (by decide +kernel)
        rcases k with _ | k
        · exact absurd hl (by decide +kernel)
        rcases k with _ | k
        · exact absurd hl (by decide +kernel)
        rcases k with _ | k
        · exact absurd hl (by decide +kernel)
        rcases k with _ | k
        · exact absurd hl (by decide +kernel)
        · simp at hd
      · show Inv.Steps _ _ _ _ _ _ _ _ [0, 1, 2, 3, 4, 5, 6, 7, 8, 9, 10, 11, 12, 13, 14, 15, 16]
        refine Inv.Steps.go (by decide) (by rfl) (fun σ wx hw hd K hK => ?_) ?_
        · simp only [List.getElem_toArray, List.getElem_cons_zero, List.getElem_cons_succ, Act.put, List.setIfInBounds_toArray, List.set_cons_zero, List.set_cons_succ] at hK ⊢
          have hQ := Q0.out _ hw
          refine wp_load_row 27 (.tmp 4) rfl v2.heap.size rfl 27 #[.slice (some ⟨gb, 0, none⟩) n c, .int .i64 Ds, .int .i64 Ev] (0, 0) _ hQ rfl rfl rfl ?_
          simp only [Act.put, List.setIfInBounds_toArray, List.set_cons_zero, List.set_cons_succ]
          exact hK.out _ _ hw trivial (rfl)
        refine Inv.Steps.go (by decide) (by rfl) (fun σ wx hw hd K hK => ?_) ?_
        · simp only [List.getElem_toArray, List.getElem_cons_zero, List.getElem_cons_succ, Act.put, List.setIfInBounds_toArray, List.set_cons_zero, List.set_cons_succ] at hK ⊢
          have hQ := Q1.out _ hw
          refine wp_load_row 45 (.tmp 5) rfl (v2.heap.size + 1) rfl 45 #[.string s0, .string s1, .string s2, .string s3, .int .i64 n1, .int .i64 n2, .int .i64 n3, .int .i64 n4, .int .i64 n5, .slice pa pn pc, .int .i64 X, .int .i64 Y, .int .i64 Z, .int .i64 T, .int .i64 Mi, .int .i64 Lo, .int .i64 A1, .int .i64 A2, .int .i64 A3, .int .i64 A4, .int .i64 A5, .int .i64 A6, .int .i64 L, .int .i64 H, .int .i64 C] (0, 0) _ hQ rfl rfl rfl ?_
          simp only [Act.put, List.setIfInBounds_toArray, List.set_cons_zero, List.set_cons_succ]
          exact hK.out _ _ hw trivial (rfl)
        refine Inv.Steps.go (by decide) (by rfl) (fun σ wx hw hd K hK => ?_) ?_
        · obtain e30 : (σ 30) = .agg #[.slice (some ⟨gb, 0, none⟩) n c, .int .i64 Ds, .int .i64 Ev] := hd 0 (some 30) (by kernel_rfl) (by rfl)
          obtain e31 : (σ 31) = .agg #[.string s0, .string s1, .string s2, .string s3, .int .i64 n1, .int .i64 n2, .int .i64 n3, .int .i64 n4, .int .i64 n5, .slice pa pn pc, .int .i64 X, .int .i64 Y, .int .i64 Z, .int .i64 T, .int .i64 Mi, .int .i64 Lo, .int .i64 A1, .int .i64 A2, .int .i64 A3, .int .i64 A4, .int .i64 A5, .int .i64 A6, .int .i64 L, .int .i64 H, .int .i64 C] := hd 1 (some 31) (by kernel_rfl) (by rfl)
          simp only [List.getElem_toArray, List.getElem_cons_zero, List.getElem_cons_succ, Act.put, List.setIfInBounds_toArray, List.set_cons_zero, List.set_cons_succ, e30, e31] at hK ⊢
          go_simp
          go_at_call 11
          refine (CLA.out _ hw).mono ?_
          rintro e w1 ⟨rfl, hb⟩
          dsimp only
          exact hK.out _ _ (hw.trans (hb.mono hw.size)) trivial (rfl)
        refine Inv.Steps.go (by decide) (by rfl) (fun σ wx hw hd K hK => ?_) ?_
        · simp only [List.getElem_toArray, List.getElem_cons_zero, List.getElem_cons_succ, Act.put, List.setIfInBounds_toArray, List.set_cons_zero, List.set_cons_succ] at hK ⊢
          have hQ := Q0.out _ hw
          refine wp_load_row 27 (.tmp 4) rfl v2.heap.size rfl 27 #[.slice (some ⟨gb, 0, none⟩) n c, .int .i64 Ds, .int .i64 Ev] (0, 0) _ hQ rfl rfl rfl ?_
          simp only [Act.put, List.setIfInBounds_toArray, List.set_cons_zero, List.set_cons_succ]
          exact hK.out _ _ hw trivial (rfl)
        refine Inv.Steps.go (by decide) (by rfl) (fun σ wx hw hd K hK => ?_) ?_
        · simp only [List.getElem_toArray, List.getElem_cons_zero, List.getElem_cons_succ, Act.put, List.setIfInBounds_toArray, List.set_cons_zero, List.set_cons_succ] at hK ⊢
          have hQ := Q2.out _ hw
          refine wp_load_row 45 (.tmp 6) rfl ((v2.heap.size + 1) + 1) rfl 45 #[.string s0x, .string s1x, .string s2x, .string s3x, .int .i64 n1x, .int .i64 n2x, .int .i64 n3x, .int .i64 n4x, .int .i64 n5x, .slice pax pnx pcx, .int .i64 Xx, .int .i64 Yx, .int .i64 Zx, .int .i64 Tx, .int .i64 Mix, .int .i64 Lox, .int .i64 A1x, .int .i64 A2x, .int .i64 A3x, .int .i64 A4x, .int .i64 A5x, .int .i64 A6x, .int .i64 Lx, .int .i64 Hx, .int .i64 Cx] (0, 0) _ hQ rfl rfl rfl ?_
          simp only [Act.put, List.setIfInBounds_toArray, List.set_cons_zero, List.set_cons_succ]
          exact hK.out _ _ hw trivial (rfl)
        refine Inv.Steps.go (by decide) (by rfl) (fun σ wx hw hd K hK => ?_) ?_
        · obtain e33 : (σ 33) = .agg #[.slice (some ⟨gb, 0, none⟩) n c, .int .i64 Ds, .int .i64 Ev] := hd 3 (some 33) (by kernel_rfl) (by rfl)
          obtain e34 : (σ 34) = .agg #[.string s0x, .string s1x, .string s2x, .string s3x, .int .i64 n1x, .int .i64 n2x, .int .i64 n3x, .int .i64 n4x, .int .i64 n5x, .slice pax pnx pcx, .int .i64 Xx, .int .i64 Yx, .int .i64 Zx, .int .i64 Tx, .int .i64 Mix, .int .i64 Lox, .int .i64 A1x, .int .i64 A2x, .int .i64 A3x, .int .i64 A4x, .int .i64 A5x, .int .i64 A6x, .int .i64 Lx, .int .i64 Hx, .int .i64 Cx] := hd 4 (some 34) (by kernel_rfl) (by rfl)
          simp only [List.getElem_toArray, List.getElem_cons_zero, List.getElem_cons_succ, Act.put, List.setIfInBounds_toArray, List.set_cons_zero, List.set_cons_succ, e33, e34] at hK ⊢
          go_simp
          go_at_call 11
          refine (CLB.out _ hw).mono ?_
          rintro e w1 ⟨rfl, hb⟩
          dsimp only
          exact hK.out _ _ (hw.trans (hb.mono hw.size)) trivial (rfl)
        refine Inv.Steps.go (by decide) (by rfl) (fun σ wx hw hd K hK => ?_) ?_
        · obtain e32 : (σ 32) = .int .i64 (la : Nat) := hd 2 (some 32) (by kernel_rfl) (by rfl)
          obtain e35 : (σ 35) = .int .i64 (lb : Nat) := hd 5 (some 35) (by kernel_rfl) (by rfl)
          simp only [List.getElem_toArray, List.getElem_cons_zero, List.getElem_cons_succ, Act.put, List.setIfInBounds_toArray, List.set_cons_zero, List.set_cons_succ, e32, e35] at hK ⊢
          go_simp
          exact hK.out _ _ hw trivial (rfl)
        refine Inv.Steps.go (by decide) (by rfl) (fun σ wx hw hd K hK => ?_) ?_
        · obtain e36 : (σ 36) = .bool false := hd 6 (some 36) (by kernel_rfl) (by rfl)
          simp only [List.getElem_toArray, List.getElem_cons_zero, List.getElem_cons_succ, Act.put, List.setIfInBounds_toArray, List.set_cons_zero, List.set_cons_succ, e36] at hK ⊢
          go_simp
          exact hK.out _ _ hw trivial (rfl)
        refine Inv.Steps.on (by decide) 7 37 false (by rfl) (by rfl) (fun σ wx hw hd => ?_) ?_
        · obtain e37 : (σ 37) = .bool false := hd 7 (some 37) (by kernel_rfl) (by rfl)
          refine ⟨by simp [e37], fun K hK => ?_⟩
          simp only [List.getElem_toArray, List.getElem_cons_zero, List.getElem_cons_succ, Act.put, List.setIfInBounds_toArray, List.set_cons_zero, List.set_cons_succ] at hK ⊢
          have hQ := Q0.out _ hw
          refine wp_load_row 27 (.tmp 4) rfl v2.heap.size rfl 27 #[.slice (some ⟨gb, 0, none⟩) n c, .int .i64 Ds, .int .i64 Ev] (0, 0) _ hQ rfl rfl rfl ?_
          simp only [Act.put, List.setIfInBounds_toArray, List.set_cons_zero, List.set_cons_succ]
          exact hK.out _ _ hw trivial (rfl)
        refine Inv.Steps.on (by decide) 7 37 false (by rfl) (by rfl) (fun σ wx hw hd => ?_) ?_
        · obtain e37 : (σ 37) = .bool false := hd 7 (some 37) (by kernel_rfl) (by rfl)
          refine ⟨by simp [e37], fun K hK => ?_⟩
          simp only [List.getElem_toArray, List.getElem_cons_zero, List.getElem_cons_succ, Act.put, List.setIfInBounds_toArray, List.set_cons_zero, List.set_cons_succ] at hK ⊢
          have hQ := Q1.out _ hw
          refine wp_load_row 45 (.tmp 5) rfl (v2.heap.size + 1) rfl 45 #[.string s0, .string s1, .string s2, .string s3, .int .i64 n1, .int .i64 n2, .int .i64 n3, .int .i64 n4, .int .i64 n5, .slice pa pn pc, .int .i64 X, .int .i64 Y, .int .i64 Z, .int .i64 T, .int .i64 Mi, .int .i64 Lo, .int .i64 A1, .int .i64 A2, .int .i64 A3, .int .i64 A4, .int .i64 A5, .int .i64 A6, .int .i64 L, .int .i64 H, .int .i64 C] (0, 0) _ hQ rfl rfl rfl ?_
          simp only [Act.put, List.setIfInBounds_toArray, List.set_cons_zero, List.set_cons_succ]
          exact hK.out _ _ hw trivial (rfl)
        refine Inv.Steps.on (by decide) 7 37 false (by rfl) (by rfl) (fun σ wx hw hd => ?_) ?_
        · obtain e37 : (σ 37) = .bool false := hd 7 (some 37) (by kernel_rfl) (by rfl)
          refine ⟨by simp [e37], fun K hK => ?_⟩
          simp only [List.getElem_toArray, List.getElem_cons_zero, List.getElem_cons_succ, Act.put, List.setIfInBounds_toArray, List.set_cons_zero, List.set_cons_succ] at hK ⊢
          have hQ := Q2.out _ hw
          refine wp_load_row 45 (.tmp 6) rfl ((v2.heap.size + 1) + 1) rfl 45 #[.string s0x, .string s1x, .string s2x, .string s3x, .int .i64 n1x, .int .i64 n2x, .int .i64 n3x, .int .i64 n4x, .int .i64 n5x, .slice pax pnx pcx, .int .i64 Xx, .int .i64 Yx, .int .i64 Zx, .int .i64 Tx, .int .i64 Mix, .int .i64 Lox, .int .i64 A1x, .int .i64 A2x, .int .i64 A3x, .int .i64 A4x, .int .i64 A5x, .int .i64 A6x, .int .i64 Lx, .int .i64 Hx, .int .i64 Cx] (0, 0) _ hQ rfl rfl rfl ?_
          simp only [Act.put, List.setIfInBounds_toArray, List.set_cons_zero, List.set_cons_succ]
          exact hK.out _ _ hw trivial (rfl)
        refine Inv.Steps.on (by decide) 7 37 false (by rfl) (by rfl) (fun σ wx hw hd => ?_) ?_
        · obtain e37 : (σ 37) = .bool false := hd 7 (some 37) (by kernel_rfl) (by rfl)
          obtain e38 : (σ 38) = .agg #[.slice (some ⟨gb, 0, none⟩) n c, .int .i64 Ds, .int .i64 Ev] := hd 8 (some 38) (by kernel_rfl) (by rfl)
          obtain e39 : (σ 39) = .agg #[.string s0, .string s1, .string s2, .string s3, .int .i64 n1, .int .i64 n2, .int .i64 n3, .int .i64 n4, .int .i64 n5, .slice pa pn pc, .int .i64 X, .int .i64 Y, .int .i64 Z, .int .i64 T, .int .i64 Mi, .int .i64 Lo, .int .i64 A1, .int .i64 A2, .int .i64 A3, .int .i64 A4, .int .i64 A5, .int .i64 A6, .int .i64 L, .int .i64 H, .int .i64 C] := hd 9 (some 39) (by kernel_rfl) (by rfl)
          obtain e40 : (σ 40) = .agg #[.string s0x, .string s1x, .string s2x, .string s3x, .int .i64 n1x, .int .i64 n2x, .int .i64 n3x, .int .i64 n4x, .int .i64 n5x, .slice pax pnx pcx, .int .i64 Xx, .int .i64 Yx, .int .i64 Zx, .int .i64 Tx, .int .i64 Mix, .int .i64 Lox, .int .i64 A1x, .int .i64 A2x, .int .i64 A3x, .int .i64 A4x, .int .i64 A5x, .int .i64 A6x, .int .i64 Lx, .int .i64 Hx, .int .i64 Cx] := hd 10 (some 40) (by kernel_rfl) (by rfl)
          refine ⟨by simp [e37], fun K hK => ?_⟩
          simp only [List.getElem_toArray, List.getElem_cons_zero, List.getElem_cons_succ, Act.put, List.setIfInBounds_toArray, List.set_cons_zero, List.set_cons_succ, e37, e38, e39, e40] at hK ⊢
          go_simp
          go_at_call 13
          refine (CABT.out _ hw).mono ?_
          rintro e w1 ⟨rfl, hb⟩
          dsimp only
          exact hK.out _ _ (hw.trans (hb.mono hw.size)) trivial (rfl)
        refine Inv.Steps.go (by decide) (by rfl) (fun σ wx hw hd K hK => ?_) ?_
        · obtain e37 : (σ 37) = .bool false := hd 7 (some 37) (by kernel_rfl) (by rfl)
          obtain e41 : (σ 41) = .bool true := hd 11 (some 41) (by kernel_rfl) (by rfl)
          simp only [List.getElem_toArray, List.getElem_cons_zero, List.getElem_cons_succ, Act.put, List.setIfInBounds_toArray, List.set_cons_zero, List.set_cons_succ, e37, e41] at hK ⊢
          go_simp
          exact hK.out _ _ hw trivial (rfl)
        refine Inv.Steps.go (by decide) (by rfl) (fun σ wx hw hd K hK => ?_) ?_
        · obtain e42 : (σ 42) = .bool true := hd 12 (some 42) (by kernel_rfl) (by rfl)
          simp only [List.getElem_toArray, List.getElem_cons_zero, List.getElem_cons_succ, Act.put, List.setIfInBounds_toArray, List.set_cons_zero, List.set_cons_succ, e42] at hK ⊢
          go_simp
          exact hK.out _ _ hw trivial (rfl)
        refine Inv.Steps.on (by decide) 13 43 true (by rfl) (by rfl) (fun σ wx hw hd => ?_) ?_
        · obtain e43 : (σ 43) = .bool true := hd 13 (some 43) (by kernel_rfl) (by rfl)
          refine ⟨by simp [e43], fun K hK => ?_⟩
          simp only [List.getElem_toArray, List.getElem_cons_zero, List.getElem_cons_succ, Act.put, List.setIfInBounds_toArray, List.set_cons_zero, List.set_cons_succ, e43] at hK ⊢
          go_simp
          go_at_call 12
          refine (awake_any wx).mono ?_
          rintro e w1 ⟨rfl, hb⟩
          dsimp only
          exact hK.out _ _ (hw.trans (hb.mono hw.size)) trivial (rfl)
        refine Inv.Steps.go (by decide) (by rfl) (fun σ wx hw hd K hK => ?_) ?_
        · obtain e43 : (σ 43) = .bool true := hd 13 (some 43) (by kernel_rfl) (by rfl)
          obtain e44 : (σ 44) = .bool true := hd 14 (some 44) (by kernel_rfl) (by rfl)
          simp only [List.getElem_toArray, List.getElem_cons_zero, List.getElem_cons_succ, Act.put, List.setIfInBounds_toArray, List.set_cons_zero, List.set_cons_succ, e43, e44] at hK ⊢
          go_simp
          exact hK.out _ _ hw trivial (rfl)
        refine Inv.Steps.go (by decide) (by rfl) (fun σ wx hw hd K hK => ?_) ?_
        · obtain e45 : (σ 45) = .bool true := hd 15 (some 45) (by kernel_rfl) (by rfl)
          simp only [List.getElem_toArray, List.getElem_cons_zero, List.getElem_cons_succ, Act.put, List.setIfInBounds_toArray, List.set_cons_zero, List.set_cons_succ, e45] at hK ⊢
          go_simp
          exact hK.out _ _ hw trivial (rfl)
        exact Inv.Steps.nil
      · intro σ wx hw hd
        obtain e2 : (σ 2) = .bool true := hd 16 (some 2) (by rfl) (by rfl)
        refine Inv.done (by kernel_rfl) (NoPanic.normal ?_)
        rw [e2]
        go_wp2_with fail
        go_ret
        exact ⟨rfl, BW.out.trans (hw.mono (by have := BW.out.size; omega))⟩
end Laws
end Go.Proofs.Yticjmblajloefaa
