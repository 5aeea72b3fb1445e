/- The walk of TravelRounds. -/
import Derived.Test.YtlfliochpnekdaaTravelM
namespace Go.Proofs.Ytlfliochpnekdaa
open Go.RowKit
namespace Laws
set_option maxHeartbeats 4000000 in
set_option maxRecDepth 100000 in
theorem travelRounds_walk (a0 : Option Addr) (len0 cap0 : Nat) (z0 : List Int) (a1 : Int) (w : World) (w0 : Buf.IsRow .i64 w a0 len0 cap0 z0) (_w1 : (Lit.int .i64 a1).wf = true) :
    Calls Try.prog 6 #[.slice a0 len0 cap0, .int .i64 a1] w fun e w' => e = .returned (.bool true) ∧ Below w.heap.size w w' := by
  go_enter Try.func6, Try.ntmps6
  go_wp2_with fail
  refine (Src.new_any a0 len0 cap0 z0 w w0).mono ?_
  rintro e0 wA ⟨rfl, m, hd⟩
  have L0 := Lib.hid (Src.Left.refl hd)
  clear hd w0
  go_wp2_with fail
  refine (Trav.table_any L0.out.di).mono ?_
  rintro e0 w2 ⟨⟨s, b1, b2, n, c1, c2, lo, hi, rfl, tv, re, s9, n9, lb1, lb2⟩, hl⟩
  have ltA := L0.out.di.lt
  have nb1 : b1 ≠ w.heap.size := by omega
  have nb2 : b2 ≠ w.heap.size := by omega
  replace L0 := Lib.hid (L0.out.trans hl)
  have s1 := tv.s1
  have n2 := tv.n3
  have r9 := Trav.reach_small s9 n2 n9
  have lt2 := L0.out.di.lt
  have neT : w2.heap.size ≠ w.heap.size := by omega
  have g1 := Lib.hid (Trav.blk_new w2 (.cells #[.int .i64 s, .slice (some ⟨b1, 0, none⟩) n c1, .slice (some ⟨b2, 0, none⟩) n c2] 26))
  replace L0 := Lib.hid (L0.out.alloc (.cells #[.int .i64 s, .slice (some ⟨b1, 0, none⟩) n c1, .slice (some ⟨b2, 0, none⟩) n c2] 26))
  replace tv := Lib.hid (tv.below (Trav.new_block (.cells #[.int .i64 s, .slice (some ⟨b1, 0, none⟩) n c1, .slice (some ⟨b2, 0, none⟩) n c2] 26)))
  clear hl ltA
  have R := Lib.hid (Trav.Reach_yes s b1 b2 n c1 c2 lo hi _ tv.out)
  have B := Lib.hid fun x y q1 q2 w h => Trav.between_sq s b1 b2 n c1 c2 lo hi x y q1 q2 w h
  have BN := Lib.hid fun x q1 q2 w h => Trav.between_ok s b1 b2 n c1 c2 lo hi x x q1 q2 w h
  have IL := Lib.hid fun x (x0 : 0 ≤ x) (hx : x ≤ s * ((n : Int) - 1)) => Trav.idx_lo (s := s) (n := n) s1 x0 hx
  have IH := Lib.hid fun x (x0 : 0 ≤ x) (hx : x ≤ s * ((n : Int) - 1)) => Trav.idx_hi (s := s) (n := n) s1 x0 hx
  generalize s * ((n : Int) - 1) = rr at *
  have hb := Lib.hid L0.out.di.bel
  clear L0
  obtain ⟨rr0, rr9⟩ := Trav.sq_small (x := rr) (by omega) r9
  have m0 : 0 ≤ a1 % (rr * rr + 1) := Int.emod_nonneg _ (by omega)
  have m1 : a1 % (rr * rr + 1) < rr * rr + 1 := Int.emod_lt_of_pos _ (by omega)
  have M := Lib.hid fun w => Keep.mod_any a1 (rr * rr + 1) w (by omega) (by omega)
  generalize a1 % (rr * rr + 1) = m at *
  obtain ⟨ab, cr⟩ := Trav.ce_le (m := m) (r := rr) m0 (by omega) (by omega) (by omega)
  obtain ⟨A0, _, _, _⟩ := Root.rt_spec m m0 (by omega)
  obtain ⟨qa, ha, la⟩ := IL.out (Root.rt m 32) A0 (by omega)
  obtain ⟨qb, hb', lb⟩ := IH.out (Root.rt m 32) A0 (by omega)
  obtain ⟨qc, hc', lc⟩ := IL.out (Root.ce m) (by omega) (by omega)
  obtain ⟨qd, hd, ld⟩ := IH.out (Root.ce m) (by omega) (by omega)
  have BX := Lib.hid fun w h => B.out (Root.rt m 32) (Root.rt m 32) qa qb w h A0 (Int.le_refl _) (by omega) (by omega) ha hb'
  have BY := Lib.hid fun w h => B.out (Root.ce m) (Root.ce m) qc qd w h (by omega) (Int.le_refl _) (by omega) (by omega) hc' hd
  have BM := Lib.hid fun w h => BN.out m qa qd w h m0 (Int.le_refl _) (by omega) cr ha hd
  have F := Lib.hid fun w => Root.floor_any m w m0 (by omega)
  have C := Lib.hid fun w => Root.ceil_any m w m0 (by omega)
  obtain ⟨p1, p2⟩ := Trav.sq_small (x := Root.rt m 32) A0 (by omega)
  obtain ⟨p3, p4⟩ := Trav.sq_small (x := Root.ce m) (by omega) (by omega)
  clear B BN IL IH ha hb' hc' hd la lb lc ld
  generalize Root.rt m 32 = A at *
  generalize Root.ce m = Z at *
  generalize lo.getD qa 0 = A1 at *
  generalize lo.getD qc 0 = A2 at *
  generalize hi.getD qb 0 = B1 at *
  generalize hi.getD qd 0 = B2 at *
  obtain ⟨x1, x2, x3⟩ := Trav.tcells g1.out
  go_wp2_with fail
  with_reducible refine (R.out).mono ?_
  rintro e0 w3 ⟨rfl, hc⟩
  replace g1 := Lib.hid (Trav.blk_b hc g1.out)
  replace tv := Lib.hid (tv.out.below hc)
  replace hb := Lib.hid (Buf.then_ hb.out hc)
  clear hc x1 x2 x3 R
  obtain ⟨x1, x2, x3⟩ := Trav.tcells g1.out
  go_wp2_with (first
    | (go_at_call 15; with_reducible refine (M.out _).mono ?_; rintro e w1 ⟨rfl, rfl⟩)
    | (go_at_call 17; with_reducible refine (F.out _).mono ?_; rintro e w1 ⟨rfl, rfl⟩)
    | (go_at_call 18; with_reducible refine (C.out _).mono ?_; rintro e w1 ⟨rfl, rfl⟩))
  refine (BX.out _ tv.out).mono ?_
  rintro e0 w6 ⟨rfl, hc⟩
  replace g1 := Lib.hid (Trav.blk_b hc g1.out)
  replace tv := Lib.hid (tv.out.below hc)
  replace hb := Lib.hid (Buf.then_ hb.out hc)
  clear hc x1 x2 x3
  obtain ⟨x1, x2, x3⟩ := Trav.tcells g1.out
  go_wp2_with fail
  refine (BY.out _ tv.out).mono ?_
  rintro e0 w7 ⟨rfl, hc⟩
  replace g1 := Lib.hid (Trav.blk_b hc g1.out)
  replace tv := Lib.hid (tv.out.below hc)
  replace hb := Lib.hid (Buf.then_ hb.out hc)
  clear hc x1 x2 x3
  obtain ⟨x1, x2, x3⟩ := Trav.tcells g1.out
  go_wp2_with fail
  refine (BM.out _ tv.out).mono ?_
  rintro e0 w8 ⟨rfl, hc⟩
  replace hb := Lib.hid (Buf.then_ hb.out hc)
  clear hc x1 x2 x3
  go_wp2_with (go_at_call 12; refine (Trav.awake_any _).mono ?_; rintro e0 w9 ⟨rfl, hc⟩; replace hb := Lib.hid (Buf.then_ hb.out hc); clear hc)
  go_ret
  exact ⟨rfl, hb.out⟩
end Laws
end Go.Proofs.Ytlfliochpnekdaa
