/- Contracts of package travel, whatever the valid table: Reach, Between. -/
import Derived.Test.YthjanffepglcfaaTravelB
namespace Go.Proofs.Ythjanffepglcfaa
open Go.RowKit
namespace Trav
theorem blk_b {w w' : World} {g : Nat} {o : Obj} (hb : Below w.heap.size w w') (h : w.heap[g]? = some o) : w'.heap[g]? = some o := by
  rw [hb.block g (Array.getElem?_eq_some_iff.1 h).1]; exact h
theorem reach_bd {s : Int} {n : Nat} (s1 : 1 ≤ s) (s9 : s ≤ 1048576) (n3 : 2 ≤ n) (n9 : n ≤ 256) : 1 ≤ s * ((n : Int) - 1) ∧ s * ((n : Int) - 1) ≤ 267386880 := by
  have h1 : 1 * 1 ≤ s * ((n : Int) - 1) := Int.mul_le_mul s1 (by omega) (by omega) (by omega)
  have h2 : s * ((n : Int) - 1) ≤ 1048576 * 255 := Int.mul_le_mul s9 (by omega) (by omega) (by omega)
  omega
set_option maxRecDepth 100000 in
theorem reach_yes (s : Int) (b1 b2 n c1 c2 : Nat) (w : World) (s1 : 1 ≤ s) (s9 : s ≤ 1048576) (n3 : 2 ≤ n) (n9 : n ≤ 256) :
    Calls Try.prog 75 #[.agg #[.int .i64 s, .slice (some ⟨b1, 0, none⟩) n c1, .slice (some ⟨b2, 0, none⟩) n c2]] w fun r w' => r = .returned (.int .i64 (s * ((n : Int) - 1))) ∧ Below w.heap.size w w' := by
  obtain ⟨r1, r2⟩ := reach_bd s1 s9 n3 n9
  have n3' : (2 : Int) ≤ n := by omega
  have n9' : (n : Int) ≤ 256 := by omega
  go_enter Try.func75, Try.ntmps75
  go_wp2
  go_ret
  exact ⟨rfl, new_block _⟩
theorem ce_spec (n : Int) (n0 : 0 ≤ n) (n1 : n ≤ 4611686018427387904) : 0 ≤ Root.ce n ∧ Root.ce n ≤ 2147483649 ∧ n ≤ Root.ce n * Root.ce n := by
  obtain ⟨r0, r9, s0, s1⟩ := Root.rt_spec n n0 n1
  unfold Root.ce
  split
  · exact ⟨by omega, by omega, by omega⟩
  · exact ⟨r0, by omega, by omega⟩
theorem calm0 {P : Program} {f : FuncId} {args : Array Value} {W w : World} {v : Value} (hC : Below W.heap.size W w) (h : Calls P f args w fun e w' => e = .returned v ∧ w' = w) :
    Calls P f args w fun e w' => e = .returned v ∧ Below W.heap.size W w' := h.mono fun _ _ ⟨he, hb⟩ => ⟨he, by rw [hb]; exact hC⟩
set_option maxRecDepth 100000 in
/-- The time of the distance q1 below, and of q2 above. -/
theorem between_ok (s : Int) (b1 b2 n c1 c2 : Nat) (lo hi : List Int) (near far : Int) (q1 q2 : Nat) (w : World) (h : TV w s b1 b2 n lo hi) (n0 : 0 ≤ near) (nf : near ≤ far) (f9 : far ≤ 4611686018427387904) (hr : Root.ce far ≤ s * ((n : Int) - 1))
    (h1 : (q1 : Int) = Root.rt near 32 / s) (h2 : (q2 : Int) = (Root.ce far + s - 1) / s) :
    Calls Try.prog 62 #[.agg #[.int .i64 s, .slice (some ⟨b1, 0, none⟩) n c1, .slice (some ⟨b2, 0, none⟩) n c2], .int .i64 near, .int .i64 far] w fun r w' => r = .returned (.tuple #[.int .i64 (lo.getD q1 0), .int .i64 (hi.getD q2 0), .int .i64 0]) ∧ Below w.heap.size w w' := by
  obtain ⟨r0, r9, rs0, rs1⟩ := Root.rt_spec near n0 (by omega)
  obtain ⟨e0, e9, e1⟩ := ce_spec far (by omega) f9
  have s1 := h.s1
  have s9 := h.s9
  have hre : Root.rt near 32 ≤ Root.ce far := Root.sq_le_of r0 (by omega) e0
  have hq1 : q1 < n := by
    have : Root.rt near 32 / s < n := (Int.ediv_lt_iff_lt_mul (by omega)).2 (by
      have : (n : Int) * s = s * ((n : Int) - 1) + s := by rw [Int.mul_sub, Int.mul_one, Int.mul_comm]; omega
      omega)
    omega
  have hq2 : q2 < n := by
    have : (Root.ce far + s - 1) / s < n := (Int.ediv_lt_iff_lt_mul (by omega)).2 (by
      have : (n : Int) * s = s * ((n : Int) - 1) + s := by rw [Int.mul_sub, Int.mul_one, Int.mul_comm]; omega
      omega)
    omega
  obtain ⟨rb1, rb2⟩ := reach_bd h.s1 h.s9 h.n3 h.n9
  have V := Lib.hid (validate_yes s b1 b2 n c1 c2 lo hi _ (h.below (new_block (.cells #[.int .i64 s, .slice (some ⟨b1, 0, none⟩) n c1, .slice (some ⟨b2, 0, none⟩) n c2] 30))))
  have R := Lib.hid fun w => reach_yes s b1 b2 n c1 c2 w h.s1 h.s9 h.n3 h.n9
  have F := Lib.hid fun w => Root.floor_any near w n0 (by omega)
  have C := Lib.hid fun w => Root.ceil_any far w (by omega) f9
  have LO := Lib.hid fun (w' : World) (hb : Below w.heap.size w w') => lower_yes s b1 b2 n c1 c2 lo hi q1 (Root.rt near 32) w' (h.below hb) h1 hq1
  have UP := Lib.hid fun (w' : World) (hb : Below w.heap.size w w') => upper_yes s b1 b2 n c1 c2 lo hi q2 (Root.ce far) w' (h.below hb) h2 hq2
  have p1 : (w.alloc (.cells #[.int .i64 s, .slice (some ⟨b1, 0, none⟩) n c1, .slice (some ⟨b2, 0, none⟩) n c2] 30)).heap[w.heap.size]? = some (.cells #[.int .i64 s, .slice (some ⟨b1, 0, none⟩) n c1, .slice (some ⟨b2, 0, none⟩) n c2] 30 (0, 0)) := heap_alloc_new _ _
  replace p1 := Lib.hid p1
  generalize Root.rt near 32 = rn at *
  generalize Root.ce far = cf at *
  generalize s * ((n : Int) - 1) = rr at *
  clear h h1 h2 hq1 hq2 rs0 rs1 e1 hre
  go_enter Try.func62, Try.ntmps62
  go_wp2_with fail
  refine V.out.mono ?_
  rintro e w1 ⟨rfl, hb⟩
  replace p1 := Lib.hid (blk_b hb p1.out)
  have hW := Lib.hid (Buf.then_ (new_block (.cells #[.int .i64 s, .slice (some ⟨b1, 0, none⟩) n c1, .slice (some ⟨b2, 0, none⟩) n c2] 30)) hb)
  clear hb
  obtain ⟨x1, x2, x3⟩ := tcells p1.out
  go_wp2_with (first | (go_at_call 69; (with_reducible refine (C.out _).mono ?_); rintro e w2 ⟨rfl, rfl⟩) | (go_at_call 75; (with_reducible refine (R.out _).mono ?_); rintro e w2 ⟨rfl, hc⟩; replace p1 := Lib.hid (blk_b hc p1.out); replace hW := Lib.hid (Buf.then_ hW.out hc); clear hc))
  clear x1 x2 x3
  refine Buf.region_calm w2 (by kernel_rfl) (by kernel_rfl) (Below.refl _ _) ?_
  repeat (go_big_quiet_step ((intro hC; first
    | (go_at_call 68; (with_reducible exact calm0 hC (F.out _)))
    | (go_at_call 76; (with_reducible exact Buf.calm hC (LO.out _ (Buf.then_ hW.out hC))))
    | (go_at_call 77; (with_reducible exact Buf.calm hC (UP.out _ (Buf.then_ hW.out hC))))
    | rfl
    | (simp only [(tcells (blk_b hC p1.out)).1, (tcells (blk_b hC p1.out)).2.1, (tcells (blk_b hC p1.out)).2.2, Result.andThen_ok]; exact ⟨trivial, rfl⟩))))
  refine wpQuiet_nil ?_
  intro w3 hc
  go_wp2
  go_ret3
  exact ⟨rfl, Buf.then_ hW.out hc⟩
theorem between_beyond (s : Int) (b1 b2 n c1 c2 : Nat) (lo hi : List Int) (near far : Int) (w : World) (h : TV w s b1 b2 n lo hi) (n0 : 0 ≤ near) (nf : near ≤ far) (f9 : far ≤ 4611686018427387904) (hr : s * ((n : Int) - 1) < Root.ce far) :
    Calls Try.prog 62 #[.agg #[.int .i64 s, .slice (some ⟨b1, 0, none⟩) n c1, .slice (some ⟨b2, 0, none⟩) n c2], .int .i64 near, .int .i64 far] w fun r w' => r = .returned (.tuple #[.int .i64 0, .int .i64 0, .int .i64 22]) ∧ Below w.heap.size w w' := by
  obtain ⟨e0, e9, e1⟩ := ce_spec far (by omega) f9
  have V := Lib.hid (validate_yes s b1 b2 n c1 c2 lo hi _ (h.below (new_block (.cells #[.int .i64 s, .slice (some ⟨b1, 0, none⟩) n c1, .slice (some ⟨b2, 0, none⟩) n c2] 30))))
  have R := Lib.hid fun w => reach_yes s b1 b2 n c1 c2 w h.s1 h.s9 h.n3 h.n9
  have C := Lib.hid fun w => Root.ceil_any far w (by omega) f9
  have p1 : (w.alloc (.cells #[.int .i64 s, .slice (some ⟨b1, 0, none⟩) n c1, .slice (some ⟨b2, 0, none⟩) n c2] 30)).heap[w.heap.size]? = some (.cells #[.int .i64 s, .slice (some ⟨b1, 0, none⟩) n c1, .slice (some ⟨b2, 0, none⟩) n c2] 30 (0, 0)) := heap_alloc_new _ _
  replace p1 := Lib.hid p1
  generalize Root.ce far = cf at *
  generalize s * ((n : Int) - 1) = rr at *
  clear h e1
  go_enter Try.func62, Try.ntmps62
  go_wp2_with fail
  refine V.out.mono ?_
  rintro e w1 ⟨rfl, hb⟩
  replace p1 := Lib.hid (blk_b hb p1.out)
  have hW := Lib.hid (Buf.then_ (new_block (.cells #[.int .i64 s, .slice (some ⟨b1, 0, none⟩) n c1, .slice (some ⟨b2, 0, none⟩) n c2] 30)) hb)
  clear hb
  obtain ⟨x1, x2, x3⟩ := tcells p1.out
  go_wp2_with (first | (go_at_call 69; (with_reducible refine (C.out _).mono ?_); rintro e w2 ⟨rfl, rfl⟩) | (go_at_call 75; (with_reducible refine (R.out _).mono ?_); rintro e w2 ⟨rfl, hc⟩; replace hW := Lib.hid (Buf.then_ hW.out hc); clear hc))
  go_ret3
  exact ⟨rfl, hW.out⟩
end Trav
end Go.Proofs.Ythjanffepglcfaa
