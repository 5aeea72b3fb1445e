/- Format. -/
import Derived.Test.YtnoggdhljijhpaaUtcF
import Derived.Test.YtnoggdhljijhpaaUtcP
set_option linter.unusedVariables false
set_option linter.unusedSimpArgs false
namespace Go.Proofs.Ytnoggdhljijhpaa
open Go.RowKit
namespace Utc
/-- The text of a time. -/
def tx (y m d h i s u : Nat) : List UInt8 := (((((((((((((pc 4 y ++ [45]) ++ pc 2 m) ++ [45]) ++ pc 2 d) ++ [84]) ++ pc 2 h) ++ [58]) ++ pc 2 i) ++ [58]) ++ pc 2 s) ++ [46]) ++ pc 6 u) ++ [90])
theorem tx_len (y m d h i s u : Nat) : (tx y m d h i s u).length = 27 := by simp [tx, pc_len]
def fm (L : List Int) (t : Int) : List UInt8 :=
  tx (dY (cb L (t / 1000000) / 86400)).toNat (dM (cb L (t / 1000000) / 86400)).toNat (dD (cb L (t / 1000000) / 86400)).toNat (cb L (t / 1000000) % 86400 / 3600).toNat (cb L (t / 1000000) % 86400 / 60 % 60).toNat (cs L (t / 1000000)).toNat (t % 1000000).toNat
theorem fm_len (L : List Int) (t : Int) : (fm L t).length = 27 := tx_len _ _ _ _ _ _ _
/-- The numbers of a civil time, as they are printed. -/
theorem civ_form {L : List Int} (hv : VT L) (t : Int) (h0 : 0 ≤ t) (h9 : t ≤ 9007199254740992) : ∃ y m d h i s u : Nat,
    civ (cb L (t / 1000000)) (cs L (t / 1000000)) (t % 1000000) = .agg #[.int .i64 (y : Int), .int .i64 (m : Int), .int .i64 (d : Int), .int .i64 (h : Int), .int .i64 (i : Int), .int .i64 (s : Int), .int .i64 (u : Int)] ∧ fm L t = tx y m d h i s u ∧
    1970 ≤ y ∧ y ≤ 2300 ∧ m ≤ 12 ∧ d ≤ 31 ∧ h ≤ 23 ∧ i ≤ 59 ∧ s ≤ 60 ∧ u ≤ 999999 := by
  obtain ⟨c0, c9, _, _, _⟩ := cb_in hv (t / 1000000) (by omega) (by omega)
  obtain ⟨y0, y9, m1, m2, d1, d2, _⟩ := date_ok (cb L (t / 1000000) / 86400) (by omega) (by omega)
  have d3 := (dim_in (dY (cb L (t / 1000000) / 86400)) (dM (cb L (t / 1000000) / 86400))).2
  have s1 : 0 ≤ cs L (t / 1000000) ∧ cs L (t / 1000000) ≤ 60 := by unfold cs; split <;> omega
  refine ⟨_, _, _, _, _, _, _, ?_, rfl, by omega, by omega, by omega, by omega, by omega, by omega, by omega, by omega⟩
  unfold civ
  simp only [Int.toNat_of_nonneg (show 0 ≤ dY (cb L (t / 1000000) / 86400) by omega), Int.toNat_of_nonneg (show 0 ≤ dM (cb L (t / 1000000) / 86400) by omega), Int.toNat_of_nonneg (show 0 ≤ dD (cb L (t / 1000000) / 86400) by omega), Int.toNat_of_nonneg (show 0 ≤ cb L (t / 1000000) % 86400 / 3600 by omega), Int.toNat_of_nonneg (show 0 ≤ cb L (t / 1000000) % 86400 / 60 % 60 by omega), Int.toNat_of_nonneg s1.1, Int.toNat_of_nonneg (show 0 ≤ t % 1000000 by omega)]
set_option maxRecDepth 100000 in
set_option maxHeartbeats 8000000 in
theorem format_any {w : World} {a : Option Addr} {n c : Nat} {L : List Int} (hr : Ro w a n c L) (hv : VT L) (t : Int) (h0 : 0 ≤ t) (h9 : t ≤ 9007199254740992) :
    Calls Try.prog 18 #[.slice a n c, .int .i64 t] w fun e w' => e = .returned (.tuple #[.string ⟨⟨fm L t⟩⟩, .int .i64 0]) ∧ Below w.heap.size w w' := by
  obtain ⟨i0, hi, hz0, hz1, hz2⟩ := info_parts infoB
  obtain ⟨y, m, d, h, i, s, u, hc, hf, y0, y9, m9, d9, h9', i9, s9, u9⟩ := civ_form hv t h0 h9
  have T := Lib.hid (toCivil_any hr hv t h0 h9)
  rw [hc] at T
  replace hf := Lib.hid hf
  clear hc hr hv
  go_enter Try.func18, Try.ntmps18
  go_wp2_with fail
  refine T.out.mono ?_
  rintro e w1 ⟨rfl, b1⟩
  replace b1 := Lib.hid b1
  clear T
  go_upto_region 4 with (first | ((with_reducible refine Mid.str 39 (.tmp 6) (.tmp 13) w1.heap.size 39 #[.int .i64 0, .int .i64 0, .int .i64 0, .int .i64 0, .int .i64 0, .int .i64 0, .int .i64 0] #[.int .i64 (y : Int), .int .i64 (m : Int), .int .i64 (d : Int), .int .i64 (h : Int), .int .i64 (i : Int), .int .i64 (s : Int), .int .i64 (u : Int)] (heap_alloc_new w1 _) ?_ ?_ ?_ ?_ ?_ ?_ ?_ ?_); (· rfl); (· rfl); (· first | rfl | simp [Act.eval]); (· first | rfl | simp [Act.eval]); (· kernel_rfl); (· rfl); (· simp [Value.oneCell'])) | fail)
  obtain ⟨w2, hw2⟩ : ∃ w2, w2 = (w1.alloc (.cells #[.int .i64 0, .int .i64 0, .int .i64 0, .int .i64 0, .int .i64 0, .int .i64 0, .int .i64 0] 39)).setRow w1.heap.size #[.int .i64 (y : Int), .int .i64 (m : Int), .int .i64 (d : Int), .int .i64 (h : Int), .int .i64 (i : Int), .int .i64 (s : Int), .int .i64 (u : Int)] := ⟨_, rfl⟩
  rw [← hw2]
  have hzy : w.heap.size ≤ w1.heap.size := b1.out.size
  have P0 : Hid (w2.heap[w1.heap.size]? = some (.cells #[.int .i64 (y : Int), .int .i64 (m : Int), .int .i64 (d : Int), .int .i64 (h : Int), .int .i64 (i : Int), .int .i64 (s : Int), .int .i64 (u : Int)] 39 (0, 0))) := Lib.hid (by rw [hw2]; exact setRow_heap _ _ _ _ _ _ (heap_alloc_new w1 _))
  have B0 : Hid (Below w.heap.size w w2) := Lib.hid (by rw [hw2]; exact Mid.below_row (b1.out.alloc hzy _) _ _ hzy)
  have zs : w1.heap.size < w2.heap.size := (Array.getElem?_eq_some_iff.1 P0.out).1
  generalize w1.heap.size = z at *
  replace hw2 := Lib.hid hw2
  -- all buffers lie behind the civil time
  have O0 : Hid (Buf.Own w2.heap.size w2 (.slice none 0 0) (bvs [])) := Lib.hid (Buf.Own.nil _ _)
  have B2 : Hid (Below w2.heap.size w2 w2) := Lib.hid (Below.refl _ _)
  have PK := Lib.hid fun wx (hb : Below w2.heap.size w2 wx) => cells7 ((hb.block z zs).trans P0.out)
  have S2 : Hid (w2.heap.size ≤ w2.heap.size) := Lib.hid (Nat.le_refl _)
  obtain ⟨k0, k1, k2, k3, k4, k5, k6⟩ := PK.out w2 B2.out
  go_wp2_with fail
  refine (pad_any (xs := []) B2.out S2.out O0.out (by simp [pc_len]) y 4 (by omega) (by omega) (by omega)).mono ?_
  rintro e a0 ⟨⟨v0, rfl, Op0⟩, Bp0, Sp0⟩
  replace Op0 : Hid (Buf.Own w2.heap.size a0 v0 (bvs (pc 4 y))) := Lib.hid (by simpa using Op0)
  replace Bp0 := Lib.hid Bp0
  replace Sp0 := Lib.hid Sp0
  clear k0 k1 k2 k3 k4 k5 k6 O0 S2
  have L0 : (bvs (pc 4 y)).length + 1 ≤ 100 := by simp [bvs_len, pc_len]
  have M0 : (bvs (pc 4 y)).length + 1 ≤ maxLen := by unfold maxLen; omega
  have N0 : ((bvs (pc 4 y)).length + 1) * 1 ≤ 140737488355328 := by omega
  go_wp2_with (at_builtin; refine Buf.wpList_append_one rfl _ _ 62 rfl 5 _ i0 (.int .u8 0) 1 Try.underlying62 hi hz0 hz1 hz2 rfl rfl Op0.out Bp0.out Sp0.out (.int .u8 45) rfl rfl M0 N0 ?_; intro u0 c0 Oq0 Bq0 Sq0; obtain ⟨k0, k1, k2, k3, k4, k5, k6⟩ := PK.out _ Bq0)
  have PO : Hid (Buf.Own w2.heap.size c0 u0 (bvs ((pc 4 y) ++ [45]))) := Lib.hid (by rw [bvs_cat]; exact Oq0)
  have PB := Lib.hid Bq0
  have PS := Lib.hid (Nat.le_trans Sp0.out Sq0)
  clear Oq0 Bq0 Sq0 Op0 Bp0 Sp0 L0 M0 N0
  refine (pad_any (xs := ((pc 4 y) ++ [45])) PB.out PS.out PO.out (by simp [pc_len]) m 2 (by omega) (by omega) (by omega)).mono ?_
  rintro e a1 ⟨⟨v1, rfl, Op1⟩, Bp1, Sp1⟩
  replace Op1 : Hid (Buf.Own w2.heap.size a1 v1 (bvs (((pc 4 y) ++ [45]) ++ pc 2 m))) := Lib.hid (by simpa using Op1)
  replace Bp1 := Lib.hid Bp1
  replace Sp1 := Lib.hid Sp1
  clear k0 k1 k2 k3 k4 k5 k6 PO PB PS
  have L1 : (bvs (((pc 4 y) ++ [45]) ++ pc 2 m)).length + 1 ≤ 100 := by simp [bvs_len, pc_len]
  have M1 : (bvs (((pc 4 y) ++ [45]) ++ pc 2 m)).length + 1 ≤ maxLen := by unfold maxLen; omega
  have N1 : ((bvs (((pc 4 y) ++ [45]) ++ pc 2 m)).length + 1) * 1 ≤ 140737488355328 := by omega
  go_wp2_with (at_builtin; refine Buf.wpList_append_one rfl _ _ 62 rfl 5 _ i0 (.int .u8 0) 1 Try.underlying62 hi hz0 hz1 hz2 rfl rfl Op1.out Bp1.out Sp1.out (.int .u8 45) rfl rfl M1 N1 ?_; intro u1 c1 Oq1 Bq1 Sq1; obtain ⟨k0, k1, k2, k3, k4, k5, k6⟩ := PK.out _ Bq1)
  have PO : Hid (Buf.Own w2.heap.size c1 u1 (bvs ((((pc 4 y) ++ [45]) ++ pc 2 m) ++ [45]))) := Lib.hid (by rw [bvs_cat]; exact Oq1)
  have PB := Lib.hid Bq1
  have PS := Lib.hid (Nat.le_trans Sp1.out Sq1)
  clear Oq1 Bq1 Sq1 Op1 Bp1 Sp1 L1 M1 N1
  refine (pad_any (xs := ((((pc 4 y) ++ [45]) ++ pc 2 m) ++ [45])) PB.out PS.out PO.out (by simp [pc_len]) d 2 (by omega) (by omega) (by omega)).mono ?_
  rintro e a2 ⟨⟨v2, rfl, Op2⟩, Bp2, Sp2⟩
  replace Op2 : Hid (Buf.Own w2.heap.size a2 v2 (bvs (((((pc 4 y) ++ [45]) ++ pc 2 m) ++ [45]) ++ pc 2 d))) := Lib.hid (by simpa using Op2)
  replace Bp2 := Lib.hid Bp2
  replace Sp2 := Lib.hid Sp2
  clear k0 k1 k2 k3 k4 k5 k6 PO PB PS
  have L2 : (bvs (((((pc 4 y) ++ [45]) ++ pc 2 m) ++ [45]) ++ pc 2 d)).length + 1 ≤ 100 := by simp [bvs_len, pc_len]
  have M2 : (bvs (((((pc 4 y) ++ [45]) ++ pc 2 m) ++ [45]) ++ pc 2 d)).length + 1 ≤ maxLen := by unfold maxLen; omega
  have N2 : ((bvs (((((pc 4 y) ++ [45]) ++ pc 2 m) ++ [45]) ++ pc 2 d)).length + 1) * 1 ≤ 140737488355328 := by omega
  go_wp2_with (at_builtin; refine Buf.wpList_append_one rfl _ _ 62 rfl 5 _ i0 (.int .u8 0) 1 Try.underlying62 hi hz0 hz1 hz2 rfl rfl Op2.out Bp2.out Sp2.out (.int .u8 84) rfl rfl M2 N2 ?_; intro u2 c2 Oq2 Bq2 Sq2; obtain ⟨k0, k1, k2, k3, k4, k5, k6⟩ := PK.out _ Bq2)
  have PO : Hid (Buf.Own w2.heap.size c2 u2 (bvs ((((((pc 4 y) ++ [45]) ++ pc 2 m) ++ [45]) ++ pc 2 d) ++ [84]))) := Lib.hid (by rw [bvs_cat]; exact Oq2)
  have PB := Lib.hid Bq2
  have PS := Lib.hid (Nat.le_trans Sp2.out Sq2)
  clear Oq2 Bq2 Sq2 Op2 Bp2 Sp2 L2 M2 N2
  refine (pad_any (xs := ((((((pc 4 y) ++ [45]) ++ pc 2 m) ++ [45]) ++ pc 2 d) ++ [84])) PB.out PS.out PO.out (by simp [pc_len]) h 2 (by omega) (by omega) (by omega)).mono ?_
  rintro e a3 ⟨⟨v3, rfl, Op3⟩, Bp3, Sp3⟩
  replace Op3 : Hid (Buf.Own w2.heap.size a3 v3 (bvs (((((((pc 4 y) ++ [45]) ++ pc 2 m) ++ [45]) ++ pc 2 d) ++ [84]) ++ pc 2 h))) := Lib.hid (by simpa using Op3)
  replace Bp3 := Lib.hid Bp3
  replace Sp3 := Lib.hid Sp3
  clear k0 k1 k2 k3 k4 k5 k6 PO PB PS
  have L3 : (bvs (((((((pc 4 y) ++ [45]) ++ pc 2 m) ++ [45]) ++ pc 2 d) ++ [84]) ++ pc 2 h)).length + 1 ≤ 100 := by simp [bvs_len, pc_len]
  have M3 : (bvs (((((((pc 4 y) ++ [45]) ++ pc 2 m) ++ [45]) ++ pc 2 d) ++ [84]) ++ pc 2 h)).length + 1 ≤ maxLen := by unfold maxLen; omega
  have N3 : ((bvs (((((((pc 4 y) ++ [45]) ++ pc 2 m) ++ [45]) ++ pc 2 d) ++ [84]) ++ pc 2 h)).length + 1) * 1 ≤ 140737488355328 := by omega
  go_wp2_with (at_builtin; refine Buf.wpList_append_one rfl _ _ 62 rfl 5 _ i0 (.int .u8 0) 1 Try.underlying62 hi hz0 hz1 hz2 rfl rfl Op3.out Bp3.out Sp3.out (.int .u8 58) rfl rfl M3 N3 ?_; intro u3 c3 Oq3 Bq3 Sq3; obtain ⟨k0, k1, k2, k3, k4, k5, k6⟩ := PK.out _ Bq3)
  have PO : Hid (Buf.Own w2.heap.size c3 u3 (bvs ((((((((pc 4 y) ++ [45]) ++ pc 2 m) ++ [45]) ++ pc 2 d) ++ [84]) ++ pc 2 h) ++ [58]))) := Lib.hid (by rw [bvs_cat]; exact Oq3)
  have PB := Lib.hid Bq3
  have PS := Lib.hid (Nat.le_trans Sp3.out Sq3)
  clear Oq3 Bq3 Sq3 Op3 Bp3 Sp3 L3 M3 N3
  refine (pad_any (xs := ((((((((pc 4 y) ++ [45]) ++ pc 2 m) ++ [45]) ++ pc 2 d) ++ [84]) ++ pc 2 h) ++ [58])) PB.out PS.out PO.out (by simp [pc_len]) i 2 (by omega) (by omega) (by omega)).mono ?_
  rintro e a4 ⟨⟨v4, rfl, Op4⟩, Bp4, Sp4⟩
  replace Op4 : Hid (Buf.Own w2.heap.size a4 v4 (bvs (((((((((pc 4 y) ++ [45]) ++ pc 2 m) ++ [45]) ++ pc 2 d) ++ [84]) ++ pc 2 h) ++ [58]) ++ pc 2 i))) := Lib.hid (by simpa using Op4)
  replace Bp4 := Lib.hid Bp4
  replace Sp4 := Lib.hid Sp4
  clear k0 k1 k2 k3 k4 k5 k6 PO PB PS
  have L4 : (bvs (((((((((pc 4 y) ++ [45]) ++ pc 2 m) ++ [45]) ++ pc 2 d) ++ [84]) ++ pc 2 h) ++ [58]) ++ pc 2 i)).length + 1 ≤ 100 := by simp [bvs_len, pc_len]
  have M4 : (bvs (((((((((pc 4 y) ++ [45]) ++ pc 2 m) ++ [45]) ++ pc 2 d) ++ [84]) ++ pc 2 h) ++ [58]) ++ pc 2 i)).length + 1 ≤ maxLen := by unfold maxLen; omega
  have N4 : ((bvs (((((((((pc 4 y) ++ [45]) ++ pc 2 m) ++ [45]) ++ pc 2 d) ++ [84]) ++ pc 2 h) ++ [58]) ++ pc 2 i)).length + 1) * 1 ≤ 140737488355328 := by omega
  go_wp2_with (at_builtin; refine Buf.wpList_append_one rfl _ _ 62 rfl 5 _ i0 (.int .u8 0) 1 Try.underlying62 hi hz0 hz1 hz2 rfl rfl Op4.out Bp4.out Sp4.out (.int .u8 58) rfl rfl M4 N4 ?_; intro u4 c4 Oq4 Bq4 Sq4; obtain ⟨k0, k1, k2, k3, k4, k5, k6⟩ := PK.out _ Bq4)
  have PO : Hid (Buf.Own w2.heap.size c4 u4 (bvs ((((((((((pc 4 y) ++ [45]) ++ pc 2 m) ++ [45]) ++ pc 2 d) ++ [84]) ++ pc 2 h) ++ [58]) ++ pc 2 i) ++ [58]))) := Lib.hid (by rw [bvs_cat]; exact Oq4)
  have PB := Lib.hid Bq4
  have PS := Lib.hid (Nat.le_trans Sp4.out Sq4)
  clear Oq4 Bq4 Sq4 Op4 Bp4 Sp4 L4 M4 N4
  refine (pad_any (xs := ((((((((((pc 4 y) ++ [45]) ++ pc 2 m) ++ [45]) ++ pc 2 d) ++ [84]) ++ pc 2 h) ++ [58]) ++ pc 2 i) ++ [58])) PB.out PS.out PO.out (by simp [pc_len]) s 2 (by omega) (by omega) (by omega)).mono ?_
  rintro e a5 ⟨⟨v5, rfl, Op5⟩, Bp5, Sp5⟩
  replace Op5 : Hid (Buf.Own w2.heap.size a5 v5 (bvs (((((((((((pc 4 y) ++ [45]) ++ pc 2 m) ++ [45]) ++ pc 2 d) ++ [84]) ++ pc 2 h) ++ [58]) ++ pc 2 i) ++ [58]) ++ pc 2 s))) := Lib.hid (by simpa using Op5)
  replace Bp5 := Lib.hid Bp5
  replace Sp5 := Lib.hid Sp5
  clear k0 k1 k2 k3 k4 k5 k6 PO PB PS
  have L5 : (bvs (((((((((((pc 4 y) ++ [45]) ++ pc 2 m) ++ [45]) ++ pc 2 d) ++ [84]) ++ pc 2 h) ++ [58]) ++ pc 2 i) ++ [58]) ++ pc 2 s)).length + 1 ≤ 100 := by simp [bvs_len, pc_len]
  have M5 : (bvs (((((((((((pc 4 y) ++ [45]) ++ pc 2 m) ++ [45]) ++ pc 2 d) ++ [84]) ++ pc 2 h) ++ [58]) ++ pc 2 i) ++ [58]) ++ pc 2 s)).length + 1 ≤ maxLen := by unfold maxLen; omega
  have N5 : ((bvs (((((((((((pc 4 y) ++ [45]) ++ pc 2 m) ++ [45]) ++ pc 2 d) ++ [84]) ++ pc 2 h) ++ [58]) ++ pc 2 i) ++ [58]) ++ pc 2 s)).length + 1) * 1 ≤ 140737488355328 := by omega
  go_wp2_with (at_builtin; refine Buf.wpList_append_one rfl _ _ 62 rfl 5 _ i0 (.int .u8 0) 1 Try.underlying62 hi hz0 hz1 hz2 rfl rfl Op5.out Bp5.out Sp5.out (.int .u8 46) rfl rfl M5 N5 ?_; intro u5 c5 Oq5 Bq5 Sq5; obtain ⟨k0, k1, k2, k3, k4, k5, k6⟩ := PK.out _ Bq5)
  have PO : Hid (Buf.Own w2.heap.size c5 u5 (bvs ((((((((((((pc 4 y) ++ [45]) ++ pc 2 m) ++ [45]) ++ pc 2 d) ++ [84]) ++ pc 2 h) ++ [58]) ++ pc 2 i) ++ [58]) ++ pc 2 s) ++ [46]))) := Lib.hid (by rw [bvs_cat]; exact Oq5)
  have PB := Lib.hid Bq5
  have PS := Lib.hid (Nat.le_trans Sp5.out Sq5)
  clear Oq5 Bq5 Sq5 Op5 Bp5 Sp5 L5 M5 N5
  refine (pad_any (xs := ((((((((((((pc 4 y) ++ [45]) ++ pc 2 m) ++ [45]) ++ pc 2 d) ++ [84]) ++ pc 2 h) ++ [58]) ++ pc 2 i) ++ [58]) ++ pc 2 s) ++ [46])) PB.out PS.out PO.out (by simp [pc_len]) u 6 (by omega) (by omega) (by omega)).mono ?_
  rintro e a6 ⟨⟨v6, rfl, Op6⟩, Bp6, Sp6⟩
  replace Op6 : Hid (Buf.Own w2.heap.size a6 v6 (bvs (((((((((((((pc 4 y) ++ [45]) ++ pc 2 m) ++ [45]) ++ pc 2 d) ++ [84]) ++ pc 2 h) ++ [58]) ++ pc 2 i) ++ [58]) ++ pc 2 s) ++ [46]) ++ pc 6 u))) := Lib.hid (by simpa using Op6)
  replace Bp6 := Lib.hid Bp6
  replace Sp6 := Lib.hid Sp6
  clear k0 k1 k2 k3 k4 k5 k6 PO PB PS
  have L6 : (bvs (((((((((((((pc 4 y) ++ [45]) ++ pc 2 m) ++ [45]) ++ pc 2 d) ++ [84]) ++ pc 2 h) ++ [58]) ++ pc 2 i) ++ [58]) ++ pc 2 s) ++ [46]) ++ pc 6 u)).length + 1 ≤ 100 := by simp [bvs_len, pc_len]
  have M6 : (bvs (((((((((((((pc 4 y) ++ [45]) ++ pc 2 m) ++ [45]) ++ pc 2 d) ++ [84]) ++ pc 2 h) ++ [58]) ++ pc 2 i) ++ [58]) ++ pc 2 s) ++ [46]) ++ pc 6 u)).length + 1 ≤ maxLen := by unfold maxLen; omega
  have N6 : ((bvs (((((((((((((pc 4 y) ++ [45]) ++ pc 2 m) ++ [45]) ++ pc 2 d) ++ [84]) ++ pc 2 h) ++ [58]) ++ pc 2 i) ++ [58]) ++ pc 2 s) ++ [46]) ++ pc 6 u)).length + 1) * 1 ≤ 140737488355328 := by omega
  go_wp2_with (at_builtin; refine Buf.wpList_append_one rfl _ _ 62 rfl 5 _ i0 (.int .u8 0) 1 Try.underlying62 hi hz0 hz1 hz2 rfl rfl Op6.out Bp6.out Sp6.out (.int .u8 90) rfl rfl M6 N6 ?_; intro u6 c6 Oq6 Bq6 Sq6; refine Buf.wpList_back_as rfl _ 62 9 5 rfl Try.underlying62 Try.underlying5 Try.underlying9 rfl _ (by have h := Oq6; rw [show ([Value.int .u8 90] : List Value) = bvs [90] from rfl, ← bvs_cat] at h; exact h) ⟨⟨tx y m d h i s u⟩⟩ rfl ?_)
  go_ret2
  exact ⟨by rw [hf.out]; rfl, (B0.out.trans (Bq6.mono B0.out.size))⟩
end Utc
end Go.Proofs.Ytnoggdhljijhpaa
