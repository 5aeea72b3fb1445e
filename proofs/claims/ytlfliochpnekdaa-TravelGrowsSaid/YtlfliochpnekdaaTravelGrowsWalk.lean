/- The walk of TravelGrows. -/
import Derived.Test.YtlfliochpnekdaaTravelL
namespace Go.Proofs.Ytlfliochpnekdaa
open Go.RowKit
namespace Laws
set_option maxHeartbeats 4000000 in
set_option maxRecDepth 100000 in
theorem travelGrows_walk (a0 : Option Addr) (len0 cap0 : Nat) (z0 : List Int) (w : World) (w0 : Buf.IsRow .i64 w a0 len0 cap0 z0) :
    Calls Try.prog 3 #[.slice a0 len0 cap0] w fun e w' => e = .returned (.bool true) ∧ Below w.heap.size w w' := by
  go_enter Try.func3, Try.ntmps3
  go_wp2_with fail
  refine (Src.new_any a0 len0 cap0 z0 w w0).mono ?_
  rintro e0 wA ⟨rfl, m, hd⟩
  have L0 := Lib.hid (Src.Left.refl hd)
  clear hd w0
  go_wp2_with fail
  refine (Trav.table_any L0.out.di).mono ?_
  rintro e0 w2 ⟨⟨s, b1, b2, n, c1, c2, lo, hi, rfl, tv, re, s9, n9, lb1, lb2⟩, hl⟩
  have ltA := L0.out.di.lt
  have nb1 : b1 ≠ w.heap.size := by omega
  have nb2 : b2 ≠ w.heap.size := by omega
  replace L0 := Lib.hid (L0.out.trans hl)
  have s1 := tv.s1
  have n2 := tv.n3
  have r9 := Trav.reach_small (by omega) s9 n2 n9
  have lt2 := L0.out.di.lt
  have neT : w2.heap.size ≠ w.heap.size := by omega
  have g1 := Lib.hid (Trav.blk_new w2 (.cells #[.int .i64 s, .slice (some ⟨b1, 0, none⟩) n c1, .slice (some ⟨b2, 0, none⟩) n c2] 26))
  replace L0 := Lib.hid (L0.out.alloc (.cells #[.int .i64 s, .slice (some ⟨b1, 0, none⟩) n c1, .slice (some ⟨b2, 0, none⟩) n c2] 26))
  replace tv := Lib.hid (tv.below (Trav.new_block (.cells #[.int .i64 s, .slice (some ⟨b1, 0, none⟩) n c1, .slice (some ⟨b2, 0, none⟩) n c2] 26)))
  clear hl ltA
  have R := Lib.hid (Trav.Reach_yes s b1 b2 n c1 c2 lo hi _ tv.out)
  have B := Lib.hid fun x y q1 q2 w h => Trav.between_sq s b1 b2 n c1 c2 lo hi x y q1 q2 w h
  have IL := Lib.hid fun x (x0 : 0 ≤ x) (hx : x ≤ s * ((n : Int) - 1)) => Trav.idx_lo (s := s) (n := n) s1 x0 hx
  have IH := Lib.hid fun x (x0 : 0 ≤ x) (hx : x ≤ s * ((n : Int) - 1)) => Trav.idx_hi (s := s) (n := n) s1 x0 hx
  generalize s * ((n : Int) - 1) = rr at *
  obtain ⟨x1, x2, x3⟩ := Trav.tcells g1.out
  go_wp2_with fail
  with_reducible refine (R.out).mono ?_
  rintro e0 w3 ⟨rfl, hc⟩
  replace g1 := Lib.hid (Trav.blk_b hc g1.out)
  replace L0 := Lib.hid (L0.out.below hc)
  replace tv := Lib.hid (tv.out.below hc)
  clear hc x1 x2 x3 R
  go_wp2_with fail
  refine (Src.n_any _ L0.out.di (by omega) (by omega)).mono ?_
  rintro e0 w4 ⟨⟨x, rfl, x0, xx⟩, hl⟩
  replace g1 := Lib.hid (hl.blk g1.out neT)
  replace tv := Lib.hid (tv.out.left hl nb1 nb2)
  replace L0 := Lib.hid (L0.out.trans hl)
  clear hl
  go_wp2_with fail
  refine (Src.n_any _ L0.out.di (by omega) (by omega)).mono ?_
  rintro e0 w5 ⟨⟨y, rfl, y0, yy⟩, hl⟩
  replace g1 := Lib.hid (hl.blk g1.out neT)
  replace tv := Lib.hid (tv.out.left hl nb1 nb2)
  replace L0 := Lib.hid (L0.out.trans hl)
  clear hl
  have hb := Lib.hid L0.out.di.bel
  clear L0
  obtain ⟨X, hX⟩ : ∃ X, X = min x y := ⟨_, rfl⟩
  obtain ⟨Y, hY⟩ : ∃ Y, Y = max x y := ⟨_, rfl⟩
  have X0 : 0 ≤ X := by omega
  have XY : X ≤ Y := by omega
  have Y9 : Y ≤ rr := by omega
  obtain ⟨qa, ha, la⟩ := IL.out X X0 (by omega)
  obtain ⟨qb, hb', lb⟩ := IH.out X X0 (by omega)
  obtain ⟨qc, hc', lc⟩ := IL.out Y (by omega) (by omega)
  obtain ⟨qd, hd, ld⟩ := IH.out Y (by omega) (by omega)
  have BX := Lib.hid fun w h => B.out X X qa qb w h X0 (Int.le_refl _) (by omega) (by omega) ha hb'
  have BY := Lib.hid fun w h => B.out Y Y qc qd w h (by omega) (Int.le_refl _) (by omega) (by omega) hc' hd
  have BXY := Lib.hid fun w h => B.out X Y qa qd w h X0 XY (by omega) (by omega) ha hd
  have mab : qa ≤ qb := by
    have : X / s ≤ (X + s - 1) / s := Int.ediv_le_ediv (by omega) (by omega)
    omega
  have mcd : qc ≤ qd := by
    have : Y / s ≤ (Y + s - 1) / s := Int.ediv_le_ediv (by omega) (by omega)
    omega
  have mac : qa ≤ qc := by
    have : X / s ≤ Y / s := Int.ediv_le_ediv (by omega) (by omega)
    omega
  have mbd : qb ≤ qd := by
    have : (X + s - 1) / s ≤ (Y + s - 1) / s := Int.ediv_le_ediv (by omega) (by omega)
    omega
  have f1 : lo.getD qa 0 ≤ hi.getD qb 0 := Int.le_trans (tv.out.val qa la).2.1 (tv.out.mono qa qb mab lb).2
  have f2 : lo.getD qc 0 ≤ hi.getD qd 0 := Int.le_trans (tv.out.val qc lc).2.1 (tv.out.mono qc qd mcd ld).2
  have f3 : lo.getD qa 0 ≤ lo.getD qc 0 := (tv.out.mono qa qc mac lc).1
  have f4 : hi.getD qb 0 ≤ hi.getD qd 0 := (tv.out.mono qb qd mbd ld).2
  generalize lo.getD qa 0 = A1 at *
  generalize lo.getD qc 0 = A2 at *
  generalize hi.getD qb 0 = B1 at *
  generalize hi.getD qd 0 = B2 at *
  obtain ⟨p1, p2⟩ := Trav.sq_small (x := X) X0 (by omega)
  obtain ⟨p3, p4⟩ := Trav.sq_small (x := Y) (by omega) (by omega)
  clear ha hb' hc' hd la lb lc ld mab mcd mac mbd B IL IH
  obtain ⟨x1, x2, x3⟩ := Trav.tcells g1.out
  have hX' := Lib.hid hX
  have hY' := Lib.hid hY
  rw [hX] at BX BXY p1 p2 X0 XY
  rw [hY] at BY BXY p3 p4 XY Y9
  clear hX hY hX' hY'
  replace BX := Lib.hid BX.out
  go_wp2_with fail
  refine (BX.out _ tv.out).mono ?_
  rintro e0 w6 ⟨rfl, hc⟩
  replace g1 := Lib.hid (Trav.blk_b hc g1.out)
  replace tv := Lib.hid (tv.out.below hc)
  replace hb := Lib.hid (Buf.then_ hb.out hc)
  clear hc x1 x2 x3
  obtain ⟨x1, x2, x3⟩ := Trav.tcells g1.out
  go_wp2_with fail
  refine (BY.out _ tv.out).mono ?_
  rintro e0 w7 ⟨rfl, hc⟩
  replace g1 := Lib.hid (Trav.blk_b hc g1.out)
  replace tv := Lib.hid (tv.out.below hc)
  replace hb := Lib.hid (Buf.then_ hb.out hc)
  clear hc x1 x2 x3
  obtain ⟨x1, x2, x3⟩ := Trav.tcells g1.out
  go_wp2_with fail
  refine (BXY.out _ tv.out).mono ?_
  rintro e0 w8 ⟨rfl, hc⟩
  replace hb := Lib.hid (Buf.then_ hb.out hc)
  clear hc x1 x2 x3
  go_wp2_with (go_at_call 12; refine (Trav.awake_any _).mono ?_; rintro e0 w9 ⟨rfl, hc⟩; replace hb := Lib.hid (Buf.then_ hb.out hc); clear hc)
  go_ret
  exact ⟨rfl, hb.out⟩
end Laws
end Go.Proofs.Ytlfliochpnekdaa
