/- RmAB: texts joined. -/
import Derived.Test.YtmmikihkfpkapaaTravAC
import Derived.Test.YtmmikihkfpkapaaRootA
import Derived.Test.YtmmikihkfpkapaaQuiet
import Derived.BigRegion
import Derived.Deep.DeepCutAuto
import Derived.Test.YtmmikihkfpkapaaBoundD
import Derived.Test.YtmmikihkfpkapaaGbAC
/- The reference of layer 25 at valid tables. -/
set_option linter.unusedVariables false
set_option linter.unusedSimpArgs false
namespace Go.Proofs.Ytmmikihkfpkapaa
open Go.RowKit Qt
namespace Trav
theorem hop {w w' : World} {b : Nat} {o : Obj} (hb : Below w.heap.size w w') (h : w.heap[b]? = some o) : w'.heap[b]? = some o := by
  rw [hb.block b (Array.getElem?_eq_some_iff.1 h).1]; exact h
set_option maxHeartbeats 8000000 in
set_option maxRecDepth 100000 in
theorem rvalidate_yes (s : Int) (b1 b2 n c1 c2 : Nat) (lo hi : List Int) (w : World) (h : TV w s b1 b2 n lo hi) :
    Calls Try.prog 99 #[.agg #[.int .i64 s, .slice (some ⟨b1, 0, none⟩) n c1, .slice (some ⟨b2, 0, none⟩) n c2]] w fun r w' => r = .returned (.int .i64 0) ∧ Below w.heap.size w w' := by
  have hs := h.s1
  have hs9 := h.s9
  have hn3 : (2 : Int) ≤ n := by have := h.n3; omega
  have hn9 : (n : Int) ≤ 256 := by have := h.n9; omega
  obtain ⟨W0, hW0⟩ : ∃ wz, wz = w.alloc (.cells #[.int .i64 s, .slice (some ⟨b1, 0, none⟩) n c1, .slice (some ⟨b2, 0, none⟩) n c2] 30) := ⟨_, rfl⟩
  have p1 := Lib.hid (show W0.heap[w.heap.size]? = some (.cells #[.int .i64 s, .slice (some ⟨b1, 0, none⟩) n c1, .slice (some ⟨b2, 0, none⟩) n c2] 30 (0, 0)) by rw [hW0]; exact heap_alloc_new w _)
  have hT := Lib.hid (show TV W0 s b1 b2 n lo hi by rw [hW0]; exact h.below (new_block _))
  have hW := Lib.hid (show Below w.heap.size w W0 by rw [hW0]; exact new_block _)
  have x1 := cell_of_row W0 w.heap.size 0 _ _ _ p1.out
  have x2 := cell_of_row W0 w.heap.size 1 _ _ _ p1.out
  have x3 := cell_of_row W0 w.heap.size 2 _ _ _ p1.out
  simp at x1 x2 x3
  have dnn : ((n : Int) != (n : Int)) = false := by simp
  clear h
  go_enter Try.func99, Try.ntmps99
  go_upto_region 1 with fail
  rw [← hW0]
  clear hW0
  go_wp2_with fail
  go_loopw [3] (fun i wr => ∃ k : Nat, k ≤ n ∧ i = .int .i64 k ∧ Hid (Below W0.heap.size W0 wr)) (fun i _ => ((n : Int) - intOf i).toNat)
  case atStart => exact ⟨0, by omega, rfl, Lib.hid (Below.refl _ _)⟩
  case round =>
    clear x1 x2 x3
    obtain ⟨k, hk, rfl, hb⟩ := hrel
    have x1 := cell_of_row wr w.heap.size 0 _ _ _ (hop hb.out p1.out)
    have x2 := cell_of_row wr w.heap.size 1 _ _ _ (hop hb.out p1.out)
    have x3 := cell_of_row wr w.heap.size 2 _ _ _ (hop hb.out p1.out)
    simp at x1 x2 x3
    by_cases hlt : k < n
    · have hlt' : (k : Int) < n := by omega
      have hTr := hT.out.below hb.out
      have y1 := hTr.at1 k hlt
      have y2 := hTr.at2 k hlt
      obtain ⟨v0, v1, v2⟩ := hTr.val k hlt
      by_cases h0 : k = 0
      · have e0 : (k : Int) = 0 := by omega
        obtain rfl : k = 0 := h0
        have z1 : decide (((0 : Nat) : Int) > 0) = false := by decide
        have z2 : decide ((0 : Int) > 0) = false := by decide
        clear hTr
        generalize lo.getD 0 0 = lk at *
        generalize hi.getD 0 0 = hk' at *
        have d1 : decide (lk < 0) = false := decide_eq_false (by omega)
        have d2 : decide (lk > hk') = false := decide_eq_false (by omega)
        have d3 : decide (hk' > 1099511627776) = false := decide_eq_false (by omega)
        clear v0 v1 v2
        go_wp2_with fail
        go_quiet (fail)
        go_wp2_with fail
        go_quiet (fail)
        go_wp2_with fail
        go_roundw
        case rel => exact ⟨1, by omega, by go_num, Lib.hid (Buf.below_drewN hb.out _)⟩
        case measure => simp [intOf]; omega
      · obtain ⟨j, hkk⟩ : ∃ j, k = j + 1 := ⟨k - 1, by omega⟩
        have q1 := hTr.at1 j (by omega)
        have q2 := hTr.at2 j (by omega)
        obtain ⟨m0, m1⟩ := hTr.mono j k (by omega) hlt
        have z0 : ((k : Int) - 1) = (j : Int) := by omega
        have z1 : decide ((k : Int) > 0) = true := decide_eq_true (by omega)
        have z2 : decide ((0 : Int) < k) = true := decide_eq_true (by omega)
        have z3 : decide (0 < k) = true := decide_eq_true (by omega)
        have j0 : (j : Int) < n := by omega
        have k0 : (0 : Int) < k := by omega
        clear hTr h0 hkk
        generalize lo.getD k 0 = lk at *
        generalize hi.getD k 0 = hk' at *
        generalize lo.getD j 0 = lj at *
        generalize hi.getD j 0 = hj at *
        have d1 : decide (lk < 0) = false := decide_eq_false (by omega)
        have d2 : decide (lk > hk') = false := decide_eq_false (by omega)
        have d3 : decide (hk' > 1099511627776) = false := decide_eq_false (by omega)
        have d4 : decide (lk < lj) = false := decide_eq_false (by omega)
        have d5 : decide (hk' < hj) = false := decide_eq_false (by omega)
        go_wp2_with fail
        go_quiet (fail)
        go_wp2_with fail
        go_quiet (fail)
        go_wp2_with fail
        go_roundw
        case rel => exact ⟨k + 1, by omega, by go_num, Lib.hid (Buf.below_drewN hb.out _)⟩
        case measure => simp [intOf]; omega
    · obtain rfl : k = n := by omega
      go_wp2_with fail
      go_ret
      exact ⟨rfl, Buf.then_ hW.out hb.out⟩
set_option maxHeartbeats 8000000 in
set_option maxRecDepth 100000 in
theorem rreach_yes (s : Int) (b1 b2 n c1 c2 : Nat) (lo hi : List Int) (w : World) (h : TV w s b1 b2 n lo hi) :
    Calls Try.prog 118 #[.agg #[.int .i64 s, .slice (some ⟨b1, 0, none⟩) n c1, .slice (some ⟨b2, 0, none⟩) n c2]] w fun r w' => r = .returned (.int .i64 (s * ((n : Int) - 1))) ∧ Below w.heap.size w w' := by
  obtain ⟨rb1, rb2⟩ := reach_bd h.s1 h.s9 h.n3 h.n9
  have hn3 : (2 : Int) ≤ n := by have := h.n3; omega
  have hn9 : (n : Int) ≤ 256 := by have := h.n9; omega
  obtain ⟨W0, hW0⟩ : ∃ wz, wz = w.alloc (.cells #[.int .i64 s, .slice (some ⟨b1, 0, none⟩) n c1, .slice (some ⟨b2, 0, none⟩) n c2] 30) := ⟨_, rfl⟩
  have p1 := Lib.hid (show W0.heap[w.heap.size]? = some (.cells #[.int .i64 s, .slice (some ⟨b1, 0, none⟩) n c1, .slice (some ⟨b2, 0, none⟩) n c2] 30 (0, 0)) by rw [hW0]; exact heap_alloc_new w _)
  have V := Lib.hid (rvalidate_yes s b1 b2 n c1 c2 lo hi W0 (by rw [hW0]; exact h.below (new_block _)))
  have hW := Lib.hid (show Below w.heap.size w W0 by rw [hW0]; exact new_block _)
  have x1 := cell_of_row W0 w.heap.size 0 _ _ _ p1.out
  have x2 := cell_of_row W0 w.heap.size 1 _ _ _ p1.out
  have x3 := cell_of_row W0 w.heap.size 2 _ _ _ p1.out
  simp at x1 x2 x3
  clear h
  go_enter Try.func118, Try.ntmps118
  go_upto_region 1 with fail
  rw [← hW0]
  clear hW0
  go_wp2_with fail
  with_reducible refine V.out.mono ?_
  rintro r w1 ⟨rfl, hb⟩
  replace p1 := Lib.hid (hop hb p1.out)
  replace hW := Lib.hid (Buf.then_ hW.out hb)
  clear hb x1 x2 x3
  have x1 := cell_of_row w1 w.heap.size 0 _ _ _ p1.out
  have x2 := cell_of_row w1 w.heap.size 1 _ _ _ p1.out
  simp at x1 x2
  go_wp2_with fail
  go_ret
  exact ⟨rfl, hW.out⟩
set_option maxHeartbeats 8000000 in
set_option maxRecDepth 100000 in
theorem rlower_yes (s : Int) (b1 b2 n c1 c2 : Nat) (lo hi : List Int) (q : Nat) (dd : Int) (w : World) (h : TV w s b1 b2 n lo hi) (hq : (q : Int) = dd / s) (hn : q < n) (d0 : 0 ≤ dd) (d9 : dd ≤ 4611686018427387904) :
    Calls Try.prog 119 #[.agg #[.int .i64 s, .slice (some ⟨b1, 0, none⟩) n c1, .slice (some ⟨b2, 0, none⟩) n c2], .int .i64 dd] w fun r w' => r = .returned (.int .i64 (lo.getD q 0)) ∧ Below w.heap.size w w' := by
  have s1 := h.s1
  have s9 := h.s9
  have hq' : (q : Int) < n := by omega
  have q9 : (q : Int) ≤ 256 := by have := h.n9; omega
  have q0 : (0 : Int) ≤ q := by omega
  have e0 : (dd).tdiv s = (q : Int) := (Int.tdiv_eq_ediv_of_nonneg (by omega)).trans hq.symm
  have e1 : (dd) / s = (q : Int) := hq.symm
  have s0 : (s == 0) = false := by rw [beq_eq_false_iff_ne]; omega
  clear hq
  obtain ⟨W0, hW0⟩ : ∃ wz, wz = w.alloc (.cells #[.int .i64 s, .slice (some ⟨b1, 0, none⟩) n c1, .slice (some ⟨b2, 0, none⟩) n c2] 30) := ⟨_, rfl⟩
  have p1 := Lib.hid (show W0.heap[w.heap.size]? = some (.cells #[.int .i64 s, .slice (some ⟨b1, 0, none⟩) n c1, .slice (some ⟨b2, 0, none⟩) n c2] 30 (0, 0)) by rw [hW0]; exact heap_alloc_new w _)
  have hT : TV W0 s b1 b2 n lo hi := by rw [hW0]; exact h.below (new_block _)
  have y := hT.at1 q hn
  have hW := Lib.hid (show Below w.heap.size w W0 by rw [hW0]; exact new_block _)
  have x1 := cell_of_row W0 w.heap.size 0 _ _ _ p1.out
  have x2 := cell_of_row W0 w.heap.size 1 _ _ _ p1.out
  have x3 := cell_of_row W0 w.heap.size 2 _ _ _ p1.out
  simp at x1 x2 x3
  clear h hT
  go_enter Try.func119, Try.ntmps119
  go_upto_region 1 with fail
  rw [← hW0]
  clear hW0
  go_wp2_with fail
  go_quiet (fail)
  go_wp2_with fail
  go_ret
  exact ⟨rfl, Buf.below_drewN hW.out _⟩
set_option maxHeartbeats 8000000 in
set_option maxRecDepth 100000 in
theorem rupper_yes (s : Int) (b1 b2 n c1 c2 : Nat) (lo hi : List Int) (q : Nat) (dd : Int) (w : World) (h : TV w s b1 b2 n lo hi) (hq : (q : Int) = (dd + s - 1) / s) (hn : q < n) (d0 : 0 ≤ dd) (d9 : dd ≤ 4611686018427387904) :
    Calls Try.prog 121 #[.agg #[.int .i64 s, .slice (some ⟨b1, 0, none⟩) n c1, .slice (some ⟨b2, 0, none⟩) n c2], .int .i64 dd] w fun r w' => r = .returned (.int .i64 (hi.getD q 0)) ∧ Below w.heap.size w w' := by
  have s1 := h.s1
  have s9 := h.s9
  have hq' : (q : Int) < n := by omega
  have q9 : (q : Int) ≤ 256 := by have := h.n9; omega
  have q0 : (0 : Int) ≤ q := by omega
  have e0 : ((dd + s - 1)).tdiv s = (q : Int) := (Int.tdiv_eq_ediv_of_nonneg (by omega)).trans hq.symm
  have e1 : ((dd + s - 1)) / s = (q : Int) := hq.symm
  have s0 : (s == 0) = false := by rw [beq_eq_false_iff_ne]; omega
  clear hq
  obtain ⟨W0, hW0⟩ : ∃ wz, wz = w.alloc (.cells #[.int .i64 s, .slice (some ⟨b1, 0, none⟩) n c1, .slice (some ⟨b2, 0, none⟩) n c2] 30) := ⟨_, rfl⟩
  have p1 := Lib.hid (show W0.heap[w.heap.size]? = some (.cells #[.int .i64 s, .slice (some ⟨b1, 0, none⟩) n c1, .slice (some ⟨b2, 0, none⟩) n c2] 30 (0, 0)) by rw [hW0]; exact heap_alloc_new w _)
  have hT : TV W0 s b1 b2 n lo hi := by rw [hW0]; exact h.below (new_block _)
  have y := hT.at2 q hn
  have hW := Lib.hid (show Below w.heap.size w W0 by rw [hW0]; exact new_block _)
  have x1 := cell_of_row W0 w.heap.size 0 _ _ _ p1.out
  have x2 := cell_of_row W0 w.heap.size 1 _ _ _ p1.out
  have x3 := cell_of_row W0 w.heap.size 2 _ _ _ p1.out
  simp at x1 x2 x3
  clear h hT
  go_enter Try.func121, Try.ntmps121
  go_upto_region 1 with fail
  rw [← hW0]
  clear hW0
  go_wp2_with fail
  go_quiet (fail)
  go_wp2_with fail
  go_ret
  exact ⟨rfl, Buf.below_drewN hW.out _⟩
set_option maxHeartbeats 8000000 in
set_option maxRecDepth 100000 in
theorem rbetween_ok (s : Int) (b1 b2 n c1 c2 : Nat) (lo hi : List Int) (near far : Int) (q1 q2 : Nat) (w : World) (h : TV w s b1 b2 n lo hi) (n0 : 0 ≤ near) (nf : near ≤ far) (f9 : far ≤ 4611686018427387904) (hr : Root.ce far ≤ s * ((n : Int) - 1))
    (h1 : (q1 : Int) = Root.rt near 32 / s) (h2 : (q2 : Int) = (Root.ce far + s - 1) / s) :
    Calls Try.prog 110 #[.agg #[.int .i64 s, .slice (some ⟨b1, 0, none⟩) n c1, .slice (some ⟨b2, 0, none⟩) n c2], .int .i64 near, .int .i64 far] w fun r w' => r = .returned (.tuple #[.int .i64 (lo.getD q1 0), .int .i64 (hi.getD q2 0), .int .i64 0]) ∧ Below w.heap.size w w' := by
  obtain ⟨r0, r9, rs0, rs1⟩ := Root.rt_spec near n0 (by omega)
  obtain ⟨e0, e9, e1⟩ := ce_spec far (by omega) f9
  have s1 := h.s1
  have s9 := h.s9
  have hre : Root.rt near 32 ≤ Root.ce far := Root.sq_le_of r0 (by omega) e0
  have hq1 : q1 < n := by
    have : Root.rt near 32 / s < n := (Int.ediv_lt_iff_lt_mul (by omega)).2 (by
      have : (n : Int) * s = s * ((n : Int) - 1) + s := by rw [Int.mul_sub, Int.mul_one, Int.mul_comm]; omega
      omega)
    omega
  have hq2 : q2 < n := by
    have : (Root.ce far + s - 1) / s < n := (Int.ediv_lt_iff_lt_mul (by omega)).2 (by
      have : (n : Int) * s = s * ((n : Int) - 1) + s := by rw [Int.mul_sub, Int.mul_one, Int.mul_comm]; omega
      omega)
    omega
  obtain ⟨W0, hW0⟩ : ∃ wz, wz = w.alloc (.cells #[.int .i64 s, .slice (some ⟨b1, 0, none⟩) n c1, .slice (some ⟨b2, 0, none⟩) n c2] 30) := ⟨_, rfl⟩
  have p1 := Lib.hid (show W0.heap[w.heap.size]? = some (.cells #[.int .i64 s, .slice (some ⟨b1, 0, none⟩) n c1, .slice (some ⟨b2, 0, none⟩) n c2] 30 (0, 0)) by rw [hW0]; exact heap_alloc_new w _)
  have hW := Lib.hid (show Below w.heap.size w W0 by rw [hW0]; exact new_block _)
  have T := Lib.hid (show TV W0 s b1 b2 n lo hi by rw [hW0]; exact h.below (new_block _))
  have V := Lib.hid fun (w' : World) (hb : Below W0.heap.size W0 w') => rvalidate_yes s b1 b2 n c1 c2 lo hi w' (T.out.below hb)
  have R := Lib.hid fun (w' : World) (hb : Below W0.heap.size W0 w') => rreach_yes s b1 b2 n c1 c2 lo hi w' (T.out.below hb)
  have F := Lib.hid fun w => Root.rfloor_all near w (by omega)
  have C := Lib.hid fun w => Root.rceil_all far w (by omega)
  have LO := Lib.hid fun (w' : World) (hb : Below W0.heap.size W0 w') => rlower_yes s b1 b2 n c1 c2 lo hi q1 (Root.rt near 32) w' (T.out.below hb) h1 hq1 r0 (by omega)
  have UP := Lib.hid fun (w' : World) (hb : Below W0.heap.size W0 w') => rupper_yes s b1 b2 n c1 c2 lo hi q2 (Root.ce far) w' (T.out.below hb) h2 hq2 e0 (by omega)
  generalize Root.rt near 32 = rn at *
  generalize Root.ce far = cf at *
  have d1 : decide (cf > s * ((n : Int) - 1)) = false := decide_eq_false (by omega)
  generalize s * ((n : Int) - 1) = sn at *
  generalize lo.getD q1 0 = x1 at *
  generalize hi.getD q2 0 = x2 at *
  clear h h1 h2 rs0 rs1 e1
  go_enter Try.func110, Try.ntmps110
  go_upto_region 1 with fail
  rw [← hW0]
  clear hW0
  have x1_ := cell_of_row W0 w.heap.size 0 _ _ _ p1.out
  have x2_ := cell_of_row W0 w.heap.size 1 _ _ _ p1.out
  have x3_ := cell_of_row W0 w.heap.size 2 _ _ _ p1.out
  simp at x1_ x2_ x3_
  go_wp2_with fail
  with_reducible refine (V.out _ (Below.refl _ _)).mono ?_
  rintro r w1 ⟨rfl, b1'⟩
  clear x1_ x2_ x3_
  obtain ⟨W1, hW1⟩ : ∃ wz, wz = w1 := ⟨_, rfl⟩
  rw [← hW1] at b1' ⊢
  have B1 := Lib.hid b1'
  have P1 := Lib.hid (hop b1' p1.out)
  clear b1' hW1
  go_wp2_with fail
  refine Buf.region_calm W1 (by kernel_rfl) (by kernel_rfl) (Below.refl _ _) ?_
  repeat (first
    | (go_big_quiet_want; refine quiet_row 30 (.tmp 3) rfl w.heap.size rfl 30 #[.int .i64 s, .slice (some ⟨b1, 0, none⟩) n c1, .slice (some ⟨b2, 0, none⟩) n c2] (0, 0) _ (fun _ hC => hop hC P1.out) rfl rfl rfl ?_; go_big_quiet_on; try simp only [Act.put, List.setIfInBounds_toArray, List.set_cons_zero, List.set_cons_succ])
    | go_big_quiet_step ((intro hC; first
       | (go_at_call 117; with_reducible exact calm0 hC (C.out _))
       | (go_at_call 118; with_reducible exact Buf.calm hC (R.out _ (Buf.then_ B1.out hC)))
       | rfl)))
  refine wpQuiet_nil ?_
  intro w2 b2'
  obtain ⟨W2, hW2⟩ : ∃ wz, wz = w2 := ⟨_, rfl⟩
  rw [← hW2] at b2' ⊢
  have B2 := Lib.hid (Buf.then_ B1.out b2')
  have P2 := Lib.hid (hop b2' P1.out)
  clear b2' hW2 B1 P1
  go_wp2_with fail
  refine Buf.region_calm W2 (by kernel_rfl) (by kernel_rfl) (Below.refl _ _) ?_
  repeat (first
    | (go_big_quiet_want; refine quiet_row 30 (.tmp 3) rfl w.heap.size rfl 30 #[.int .i64 s, .slice (some ⟨b1, 0, none⟩) n c1, .slice (some ⟨b2, 0, none⟩) n c2] (0, 0) _ (fun _ hC => hop hC P2.out) rfl rfl rfl ?_; go_big_quiet_on; try simp only [Act.put, List.setIfInBounds_toArray, List.set_cons_zero, List.set_cons_succ])
    | go_big_quiet_step ((intro hC; first
       | (go_at_call 120; with_reducible exact calm0 hC (F.out _))
       | (go_at_call 117; with_reducible exact calm0 hC (C.out _))
       | (go_at_call 119; with_reducible exact Buf.calm hC (LO.out _ (Buf.then_ B2.out hC)))
       | (go_at_call 121; with_reducible exact Buf.calm hC (UP.out _ (Buf.then_ B2.out hC)))
       | rfl)))
  refine wpQuiet_nil ?_
  intro w3 b3'
  go_wp2_with fail
  go_ret3
  exact ⟨rfl, Buf.then_ hW.out (Buf.then_ B2.out b3')⟩
end Trav
end Go.Proofs.Ytmmikihkfpkapaa

/- The reference of layer 26 at the tables of the dice. -/
set_option linter.unusedVariables false
set_option linter.unusedSimpArgs false
namespace Go.Proofs.Ytmmikihkfpkapaa
open Go.RowKit Qt
namespace Bound
theorem hop {w w' : World} {b : Nat} {o : Obj} (hb : Below w.heap.size w w') (h : w.heap[b]? = some o) : w'.heap[b]? = some o := Trav.hop hb h
theorem nearV_of {a b c d e f x y z : Int} (h1 : Geo.BV a b c d e f) (h2 : Geo.PV x y z) (w : World) : Calls Try.prog 60 #[.agg #[.int .i64 a, .int .i64 b, .int .i64 c, .int .i64 d, .int .i64 e, .int .i64 f], .agg #[.int .i64 x, .int .i64 y, .int .i64 z]] w fun r w' => r = .returned (.int .i64 (Geo.near3 a b c d e f x y z)) ∧ Below w.heap.size w w' := Geo.rnear_3 a b c d e f x y z (Geo.bvB_of h1) (Geo.pvB_of h2) w
theorem farV_of {a b c d e f x y z : Int} (h1 : Geo.BV a b c d e f) (h2 : Geo.PV x y z) (w : World) : Calls Try.prog 61 #[.agg #[.int .i64 a, .int .i64 b, .int .i64 c, .int .i64 d, .int .i64 e, .int .i64 f], .agg #[.int .i64 x, .int .i64 y, .int .i64 z]] w fun r w' => r = .returned (.int .i64 (Geo.far3 a b c d e f x y z)) ∧ Below w.heap.size w w' := Geo.rfar_3 a b c d e f x y z (Geo.bvB_of h1) (Geo.pvB_of h2) w
theorem rvb_of {a b c d e f : Int} (h1 : Geo.BV a b c d e f) (w : World) : Calls Try.prog 57 #[.agg #[.int .i64 a, .int .i64 b, .int .i64 c, .int .i64 d, .int .i64 e, .int .i64 f]] w fun r w' => r = .returned (.bool true) ∧ Below w.heap.size w w' := by have := Geo.rvalidBox_any a b c d e f w; rwa [Geo.bvB_of h1] at this
theorem rvp_of {x y z : Int} (h1 : Geo.PV x y z) (w : World) : Calls Try.prog 94 #[.agg #[.int .i64 x, .int .i64 y, .int .i64 z]] w fun r w' => r = .returned (.bool true) ∧ Below w.heap.size w w' := by have := Geo.rvalid_any x y z w; rwa [Geo.pvB_of h1] at this
set_option maxHeartbeats 8000000 in
set_option maxRecDepth 100000 in
theorem rbox_int (s : Int) (b1 b2 n c1 c2 : Nat) (lo hi : List Int) (a b c d e f x y z : Int) (w : World) (h : Wide w s b1 b2 n lo hi) (h1 : Geo.BV a b c d e f) (h2 : Geo.PV x y z) (hf : Geo.far3 a b c d e f x y z ≤ 160000) :
    Calls Try.prog 101 #[.agg #[.int .i64 s, .slice (some ⟨b1, 0, none⟩) n c1, .slice (some ⟨b2, 0, none⟩) n c2], .agg #[.int .i64 a, .int .i64 b, .int .i64 c, .int .i64 d, .int .i64 e, .int .i64 f], .agg #[.int .i64 x, .int .i64 y, .int .i64 z]] w fun r w' => r = .returned (.tuple #[.int .i64 (LO s lo (Geo.near3 a b c d e f x y z)), .int .i64 (HI s hi (Geo.far3 a b c d e f x y z)), .int .i64 0]) ∧ Below w.heap.size w w' := by
  obtain ⟨m0, m1, _⟩ := near_far h1 h2
  obtain ⟨q1, _, e1, _, _, _, e3, _⟩ := h.at m0 (by omega)
  obtain ⟨_, q2, _, e2, _, _, _, e4⟩ := h.at (by omega) hf
  rw [e3, e4]
  have ce := ce400 (by omega) hf
  have re := h.re
  have hr : Root.ce (Geo.far3 a b c d e f x y z) ≤ s * ((n : Int) - 1) := by omega
  obtain ⟨W0, hW0⟩ : ∃ wz, wz = ((w.alloc (.cells #[.int .i64 s, .slice (some ⟨b1, 0, none⟩) n c1, .slice (some ⟨b2, 0, none⟩) n c2] 30)).alloc (.cells #[.int .i64 a, .int .i64 b, .int .i64 c, .int .i64 d, .int .i64 e, .int .i64 f] 28)).alloc (.cells #[.int .i64 x, .int .i64 y, .int .i64 z] 26) := ⟨_, rfl⟩
  have B0 : Below w.heap.size w W0 := by rw [hW0]; exact Buf.then_ (Buf.then_ (Geo.new_block _) (Geo.new_block _)) (Geo.new_block _)
  have T := Lib.hid (h.tv.below B0)
  have p1 := Lib.hid (show W0.heap[w.heap.size]? = some (.cells #[.int .i64 s, .slice (some ⟨b1, 0, none⟩) n c1, .slice (some ⟨b2, 0, none⟩) n c2] 30 (0, 0)) by rw [hW0]; exact Geo.blk_alloc (Geo.blk_alloc (Geo.blk_new w _) _) _)
  have p2 := Lib.hid (show W0.heap[w.heap.size + 1]? = some (.cells #[.int .i64 a, .int .i64 b, .int .i64 c, .int .i64 d, .int .i64 e, .int .i64 f] 28 (0, 0)) by rw [hW0]; exact Geo.blk_alloc (Geo.blk_new1 w _ _) _)
  have p3 := Lib.hid (show W0.heap[w.heap.size + 1 + 1]? = some (.cells #[.int .i64 x, .int .i64 y, .int .i64 z] 26 (0, 0)) by rw [hW0]; exact Geo.blk_new2 w _ _ _)
  have hW := Lib.hid B0
  have V := Lib.hid fun (w' : World) (hb : Below W0.heap.size W0 w') => Trav.rvalidate_yes s b1 b2 n c1 c2 lo hi w' (T.out.below hb)
  have VB := Lib.hid fun w' => rvb_of h1 w'
  have VP := Lib.hid fun w' => rvp_of h2 w'
  have NR := Lib.hid fun w' => nearV_of h1 h2 w'
  have FR := Lib.hid fun w' => farV_of h1 h2 w'
  have BW := Lib.hid fun (w' : World) (hb : Below W0.heap.size W0 w') => Trav.rbetween_ok s b1 b2 n c1 c2 lo hi _ _ q1 q2 w' (T.out.below hb) m0 m1 (by omega) hr e1 e2
  generalize Geo.near3 a b c d e f x y z = nr at *
  generalize Geo.far3 a b c d e f x y z = fr at *
  generalize lo.getD q1 0 = x1 at *
  generalize hi.getD q2 0 = x2 at *
  clear h e1 e2 e3 e4 ce re hr B0 h1 h2 m0 m1 hf
  go_enter Try.func101, Try.ntmps101
  go_upto_region 1 with fail
  rw [← hW0]
  clear hW0
  have x1_ := cell_of_row W0 w.heap.size 0 _ _ _ p1.out
  have x2_ := cell_of_row W0 w.heap.size 1 _ _ _ p1.out
  have x3_ := cell_of_row W0 w.heap.size 2 _ _ _ p1.out
  simp at x1_ x2_ x3_
  go_wp2_with fail
  with_reducible refine (V.out _ (Below.refl _ _)).mono ?_
  rintro r w1 ⟨rfl, b1'⟩
  have B1 := Lib.hid b1'
  have P2 := Lib.hid (hop b1' p2.out)
  clear b1' x1_ x2_ x3_
  obtain ⟨u1, u2, u3, u4, u5, u6⟩ := Geo.cells6 P2.out
  go_wp2_with fail
  with_reducible refine (VB.out _).mono ?_
  rintro r w2 ⟨rfl, b2'⟩
  have B2 := Lib.hid (Buf.then_ B1.out b2')
  have P3 := Lib.hid (hop B2.out p3.out)
  clear b2' u1 u2 u3 u4 u5 u6 B1 P2
  obtain ⟨u1, u2, u3, _, _, _⟩ := Geo.cells3 P3.out
  go_wp2_with fail
  with_reducible refine (VP.out _).mono ?_
  rintro r w3 ⟨rfl, b3'⟩
  obtain ⟨W3, hW3⟩ : ∃ wz, wz = w3 := ⟨_, rfl⟩
  rw [← hW3] at b3' ⊢
  have B3 := Lib.hid (Buf.then_ B2.out b3')
  have P1 := Lib.hid (hop B3.out p1.out)
  have P2 := Lib.hid (hop B3.out p2.out)
  have P3 := Lib.hid (hop B3.out p3.out)
  clear b3' hW3 u1 u2 u3 B2
  go_wp2_with fail
  refine Buf.region_calm W3 (by kernel_rfl) (by kernel_rfl) (Below.refl _ _) ?_
  repeat (first
    | (go_big_quiet_want; refine quiet_row 30 (.tmp 3) rfl w.heap.size rfl 30 #[.int .i64 s, .slice (some ⟨b1, 0, none⟩) n c1, .slice (some ⟨b2, 0, none⟩) n c2] (0, 0) _ (fun _ hC => hop hC P1.out) rfl rfl rfl ?_; go_big_quiet_on; try simp only [Act.put, List.setIfInBounds_toArray, List.set_cons_zero, List.set_cons_succ])
    | (go_big_quiet_want; refine quiet_row 28 (.tmp 4) rfl (w.heap.size + 1) rfl 28 #[.int .i64 a, .int .i64 b, .int .i64 c, .int .i64 d, .int .i64 e, .int .i64 f] (0, 0) _ (fun _ hC => hop hC P2.out) rfl rfl rfl ?_; go_big_quiet_on; try simp only [Act.put, List.setIfInBounds_toArray, List.set_cons_zero, List.set_cons_succ])
    | (go_big_quiet_want; refine quiet_row 26 (.tmp 5) rfl (w.heap.size + 1 + 1) rfl 26 #[.int .i64 x, .int .i64 y, .int .i64 z] (0, 0) _ (fun _ hC => hop hC P3.out) rfl rfl rfl ?_; go_big_quiet_on; try simp only [Act.put, List.setIfInBounds_toArray, List.set_cons_zero, List.set_cons_succ])
    | go_big_quiet_step ((intro hC; first
       | (go_at_call 60; with_reducible exact Buf.calm hC (NR.out _))
       | (go_at_call 61; with_reducible exact Buf.calm hC (FR.out _))
       | (go_at_call 110; with_reducible exact Buf.calm hC (BW.out _ (Buf.then_ B3.out hC)))
       | rfl)))
  refine wpQuiet_nil ?_
  intro w4 b4'
  go_wp2_with fail
  go_ret3
  exact ⟨rfl, Buf.then_ hW.out (Buf.then_ B3.out b4')⟩
set_option maxHeartbeats 8000000 in
set_option maxRecDepth 100000 in
theorem rvalidPhase_yes (x y z E L W : Int) (h : PhV x y z E L W) (w : World) :
    Calls Try.prog 100 #[.agg #[.int .i64 x, .int .i64 y, .int .i64 z, .int .i64 E, .int .i64 L, .int .i64 W]] w fun r w' => r = .returned (.bool true) ∧ Below w.heap.size w w' := by
  obtain ⟨hp, e0, el, l9, w1, w9⟩ := h
  have VP := Lib.hid fun w' => rvp_of hp w'
  have p1 := Lib.hid (Geo.blk_new w (.cells #[.int .i64 x, .int .i64 y, .int .i64 z, .int .i64 E, .int .i64 L, .int .i64 W] 63))
  have hW := Lib.hid (Geo.new_block (w := w) (.cells #[.int .i64 x, .int .i64 y, .int .i64 z, .int .i64 E, .int .i64 L, .int .i64 W] 63))
  clear hp
  obtain ⟨u1, u2, u3, u4, u5, u6⟩ := Geo.cells6 p1.out
  go_enter Try.func100, Try.ntmps100
  go_wp2_with fail
  with_reducible refine (VP.out _).mono ?_
  rintro r w1 ⟨rfl, hb⟩
  replace p1 := Lib.hid (hop hb p1.out)
  replace hW := Lib.hid (Buf.then_ hW.out hb)
  clear hb u1 u2 u3 u4 u5 u6
  obtain ⟨u1, u2, u3, u4, u5, u6⟩ := Geo.cells6 p1.out
  go_wp2_with fail
  go_ret
  exact ⟨by first | rfl | simp [w9], hW.out⟩
set_option maxHeartbeats 8000000 in
set_option maxRecDepth 100000 in
theorem rzone_bx (s : Int) (b1 b2 n c1 c2 : Nat) (lo hi : List Int) (a b c d e f x y z E L W : Int) (w : World) (h : Wide w s b1 b2 n lo hi) (h1 : Geo.BV a b c d e f) (hp : PhV x y z E L W) (hf : Geo.far3 a b c d e f x y z ≤ 160000) :
    Calls Try.prog 67 #[.agg #[.int .i64 s, .slice (some ⟨b1, 0, none⟩) n c1, .slice (some ⟨b2, 0, none⟩) n c2], .agg #[.int .i64 a, .int .i64 b, .int .i64 c, .int .i64 d, .int .i64 e, .int .i64 f], .agg #[.int .i64 x, .int .i64 y, .int .i64 z, .int .i64 E, .int .i64 L, .int .i64 W]] w fun r w' => r = .returned (.tuple #[.agg #[.int .i64 (E - HI s hi (Geo.far3 a b c d e f x y z)), .int .i64 (L - LO s lo (Geo.near3 a b c d e f x y z))], .int .i64 0]) ∧ Below w.heap.size w w' := by
  obtain ⟨m0, m1, _⟩ := near_far h1 hp.pv
  have bd1 := h.bd m0 (by omega)
  have bd2 := h.bd (by omega) hf
  have e0 := hp.e0; have el := hp.el; have l9 := hp.l9
  obtain ⟨W0, hW0⟩ : ∃ wz, wz = (((w.alloc (.cells #[.int .i64 s, .slice (some ⟨b1, 0, none⟩) n c1, .slice (some ⟨b2, 0, none⟩) n c2] 30)).alloc (.cells #[.int .i64 a, .int .i64 b, .int .i64 c, .int .i64 d, .int .i64 e, .int .i64 f] 28)).alloc (.cells #[.int .i64 x, .int .i64 y, .int .i64 z, .int .i64 E, .int .i64 L, .int .i64 W] 63)).alloc (.cells #[.int .i64 0, .int .i64 0] 43) := ⟨_, rfl⟩
  have B0 : Below w.heap.size w W0 := by rw [hW0]; exact bel4 w _ _ _ _
  have H := Lib.hid (h.below B0)
  have p1 := Lib.hid (show W0.heap[w.heap.size]? = some (.cells #[.int .i64 s, .slice (some ⟨b1, 0, none⟩) n c1, .slice (some ⟨b2, 0, none⟩) n c2] 30 (0, 0)) by rw [hW0]; exact nb0 w _ _ _ _)
  have p2 := Lib.hid (show W0.heap[w.heap.size + 1]? = some (.cells #[.int .i64 a, .int .i64 b, .int .i64 c, .int .i64 d, .int .i64 e, .int .i64 f] 28 (0, 0)) by rw [hW0]; exact nb1 w _ _ _ _)
  have p3 := Lib.hid (show W0.heap[w.heap.size + 1 + 1]? = some (.cells #[.int .i64 x, .int .i64 y, .int .i64 z, .int .i64 E, .int .i64 L, .int .i64 W] 63 (0, 0)) by rw [hW0]; exact nb2 w _ _ _ _)
  have p4 := Lib.hid (show W0.heap[w.heap.size + 1 + 1 + 1]? = some (.cells #[.int .i64 0, .int .i64 0] 43 (0, 0)) by rw [hW0]; exact nb3 w _ _ _ _)
  have hW := Lib.hid B0
  have V := Lib.hid fun (w' : World) (hb : Below W0.heap.size W0 w') => Trav.rvalidate_yes s b1 b2 n c1 c2 lo hi w' (H.out.below hb).tv
  have VB := Lib.hid fun w' => rvb_of h1 w'
  have VP := Lib.hid fun w' => rvalidPhase_yes x y z E L W hp w'
  have IV := Lib.hid fun (w' : World) (hb : Below W0.heap.size W0 w') => rbox_int s b1 b2 n c1 c2 lo hi a b c d e f x y z w' (H.out.below hb) h1 hp.pv hf
  generalize LO s lo (Geo.near3 a b c d e f x y z) = lw at *
  generalize HI s hi (Geo.far3 a b c d e f x y z) = hg at *
  clear h B0 h1 hp m0 m1 hf
  go_enter Try.func67, Try.ntmps67
  go_upto_region 1 with fail
  rw [← hW0]
  clear hW0
  have x1_ := cell_of_row W0 w.heap.size 0 _ _ _ p1.out
  have x2_ := cell_of_row W0 w.heap.size 1 _ _ _ p1.out
  have x3_ := cell_of_row W0 w.heap.size 2 _ _ _ p1.out
  simp at x1_ x2_ x3_
  go_wp2_with fail
  with_reducible refine (V.out _ (Below.refl _ _)).mono ?_
  rintro r w1 ⟨rfl, b1'⟩
  have B1 := Lib.hid b1'
  have P2 := Lib.hid (hop b1' p2.out)
  clear b1' x1_ x2_ x3_
  obtain ⟨u1, u2, u3, u4, u5, u6⟩ := Geo.cells6 P2.out
  go_wp2_with fail
  with_reducible refine (VB.out _).mono ?_
  rintro r w2 ⟨rfl, b2'⟩
  have B2 := Lib.hid (Buf.then_ B1.out b2')
  have P3 := Lib.hid (hop B2.out p3.out)
  clear b2' u1 u2 u3 u4 u5 u6 B1 P2
  obtain ⟨u1, u2, u3, u4, u5, u6⟩ := Geo.cells6 P3.out
  go_wp2_with fail
  with_reducible refine (VP.out _).mono ?_
  rintro r w3 ⟨rfl, b3'⟩
  have B3 := Lib.hid (Buf.then_ B2.out b3')
  have P1 := Lib.hid (hop B3.out p1.out)
  have P2 := Lib.hid (hop B3.out p2.out)
  have P3 := Lib.hid (hop B3.out p3.out)
  clear b3' B2 u1 u2 u3 u4 u5 u6
  have x1_ := cell_of_row w3 w.heap.size 0 _ _ _ P1.out
  have x2_ := cell_of_row w3 w.heap.size 1 _ _ _ P1.out
  have x3_ := cell_of_row w3 w.heap.size 2 _ _ _ P1.out
  simp at x1_ x2_ x3_
  obtain ⟨u1, u2, u3, u4, u5, u6⟩ := Geo.cells6 P2.out
  obtain ⟨v1, v2, v3, v4, v5, v6⟩ := Geo.cells6 P3.out
  go_wp2_with fail
  with_reducible refine (IV.out _ B3.out).mono ?_
  rintro r w4 ⟨rfl, b4'⟩
  have B4 := Lib.hid (Buf.then_ B3.out b4')
  have P3 := Lib.hid (hop B4.out p3.out)
  have P4 := Lib.hid (hop B4.out p4.out)
  clear b4' x1_ x2_ x3_ u1 u2 u3 u4 u5 u6 v1 v2 v3 v4 v5 v6 B3
  obtain ⟨v1, v2, v3, v4, v5, v6⟩ := Geo.cells6 P3.out
  obtain ⟨z1, z2⟩ := zc P4.out
  have f1 := frozen_of_row w4 (w.heap.size + 1 + 1 + 1) 0 _ _ P4.out
  have f2 := frozen_of_row w4 (w.heap.size + 1 + 1 + 1) 1 _ _ P4.out
  go_wp2_with fail
  have r1 := (heap_setCell_same w4 (w.heap.size + 1 + 1 + 1) 0 _ _ (.int .i64 (E - hg)) P4.out).trans rfl
  have r2 := (heap_setCell_same _ (w.heap.size + 1 + 1 + 1) 1 _ _ (.int .i64 (L - lw)) r1).trans rfl
  obtain ⟨t1, t2⟩ := zc r2
  have hB := Lib.hid (((Buf.then_ hW.out B4.out).setCell (p := ⟨w.heap.size + 1 + 1 + 1, 0, none⟩) (by simp; omega) (.int .i64 (E - hg))).setCell (p := ⟨w.heap.size + 1 + 1 + 1, 1, none⟩) (by simp; omega) (.int .i64 (L - lw)))
  refine bodyPost_ret (v := .tuple #[.agg #[.int .i64 (E - hg), .int .i64 (L - lw)], .int .i64 0]) (by simp [results, Try.results67, go_sem, t1, t2]) rfl ⟨rfl, hB.out⟩
end Bound
end Go.Proofs.Ytmmikihkfpkapaa
