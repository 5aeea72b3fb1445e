/- The walk of TravelContains. -/
import Derived.Test.YtlfliochpnekdaaTravelM
import Derived.Deep.DeepCutAuto
import Derived.Deep.RegionHeld3
import Derived.Test.YtlfliochpnekdaaTravelN
namespace Go.Proofs.Ytlfliochpnekdaa
open Go.RowKit
namespace Laws
set_option maxHeartbeats 8000000 in
set_option maxRecDepth 100000 in
theorem travelContains_walk (a0 : Option Addr) (len0 cap0 : Nat) (z0 : List Int) (w : World) (w0 : Buf.IsRow .i64 w a0 len0 cap0 z0) :
    Calls Try.prog 4 #[.slice a0 len0 cap0] w fun e w' => e = .returned (.bool true) ∧ Below w.heap.size w w' := by
  go_enter Try.func4, Try.ntmps4
  go_wp2_with fail
  refine (Src.new_any a0 len0 cap0 z0 w w0).mono ?_
  rintro e0 wA ⟨rfl, m, hd⟩
  have L0 := Lib.hid (Src.Left.refl hd)
  clear hd w0
  go_wp2_with fail
  refine (Trav.table_any L0.out.di).mono ?_
  rintro e0 w2 ⟨⟨s, b1, b2, n, c1, c2, lo, hi, rfl, tv, re, s9, n9, lb1, lb2⟩, hl⟩
  have ltA := L0.out.di.lt
  have nb1 : b1 ≠ w.heap.size := by omega
  have nb2 : b2 ≠ w.heap.size := by omega
  replace L0 := Lib.hid (L0.out.trans hl)
  have s1 := tv.s1
  have n2 := tv.n3
  have r9 := Trav.reach_small s9 n2 n9
  have lt2 := L0.out.di.lt
  have neT : w2.heap.size ≠ w.heap.size := by omega
  have g1 := Lib.hid (Trav.blk_new w2 (.cells #[.int .i64 s, .slice (some ⟨b1, 0, none⟩) n c1, .slice (some ⟨b2, 0, none⟩) n c2] 26))
  replace L0 := Lib.hid (L0.out.alloc (.cells #[.int .i64 s, .slice (some ⟨b1, 0, none⟩) n c1, .slice (some ⟨b2, 0, none⟩) n c2] 26))
  replace tv := Lib.hid (tv.below (Trav.new_block (.cells #[.int .i64 s, .slice (some ⟨b1, 0, none⟩) n c1, .slice (some ⟨b2, 0, none⟩) n c2] 26)))
  clear hl ltA
  go_wp2_with fail
  refine (Src.place_any 60 L0.out.di (by omega) (by omega)).mono ?_
  rintro e0 w3 ⟨⟨x1, y1, z1, rfl, xa1, xb1, ya1, yb1, za1, zb1⟩, hl⟩
  replace g1 := Lib.hid (hl.blk g1.out neT)
  replace tv := Lib.hid (tv.out.left hl nb1 nb2)
  replace L0 := Lib.hid (L0.out.trans hl)
  clear hl
  go_wp2_with fail
  refine (Src.place_any 60 L0.out.di (by omega) (by omega)).mono ?_
  rintro e0 w4 ⟨⟨x2, y2, z2, rfl, xa2, xb2, ya2, yb2, za2, zb2⟩, hl⟩
  replace g1 := Lib.hid (hl.blk g1.out neT)
  replace tv := Lib.hid (tv.out.left hl nb1 nb2)
  replace L0 := Lib.hid (L0.out.trans hl)
  clear hl
  go_wp2_with fail
  refine (Src.place_any 30 L0.out.di (by omega) (by omega)).mono ?_
  rintro e0 w5 ⟨⟨x3, y3, z3, rfl, xa3, xb3, ya3, yb3, za3, zb3⟩, hl⟩
  replace g1 := Lib.hid (hl.blk g1.out neT)
  replace tv := Lib.hid (tv.out.left hl nb1 nb2)
  replace L0 := Lib.hid (L0.out.trans hl)
  clear hl
  go_wp2_with fail
  have hb := Lib.hid L0.out.di.bel
  clear L0
  replace hb := Lib.hid (Buf.then_ hb.out (Trav.bel3 w5 (.cells #[.int .i64 x1, .int .i64 y1, .int .i64 z1] 36) (.cells #[.int .i64 x2, .int .i64 y2, .int .i64 z2] 36) (.cells #[.int .i64 x3, .int .i64 y3, .int .i64 z3] 36)))
  replace g1 := Lib.hid (Trav.blk_b (Trav.bel3 w5 (.cells #[.int .i64 x1, .int .i64 y1, .int .i64 z1] 36) (.cells #[.int .i64 x2, .int .i64 y2, .int .i64 z2] 36) (.cells #[.int .i64 x3, .int .i64 y3, .int .i64 z3] 36)) g1.out)
  replace tv := Lib.hid (tv.out.below (Trav.bel3 w5 (.cells #[.int .i64 x1, .int .i64 y1, .int .i64 z1] 36) (.cells #[.int .i64 x2, .int .i64 y2, .int .i64 z2] 36) (.cells #[.int .i64 x3, .int .i64 y3, .int .i64 z3] 36)))
  have h1 := Lib.hid (Trav.blk3a w5 (.cells #[.int .i64 x1, .int .i64 y1, .int .i64 z1] 36) (.cells #[.int .i64 x2, .int .i64 y2, .int .i64 z2] 36) (.cells #[.int .i64 x3, .int .i64 y3, .int .i64 z3] 36))
  have h2 := Lib.hid (Trav.blk3b w5 (.cells #[.int .i64 x1, .int .i64 y1, .int .i64 z1] 36) (.cells #[.int .i64 x2, .int .i64 y2, .int .i64 z2] 36) (.cells #[.int .i64 x3, .int .i64 y3, .int .i64 z3] 36))
  have h3 := Lib.hid (Trav.blk3c w5 (.cells #[.int .i64 x1, .int .i64 y1, .int .i64 z1] 36) (.cells #[.int .i64 x2, .int .i64 y2, .int .i64 z2] 36) (.cells #[.int .i64 x3, .int .i64 y3, .int .i64 z3] 36))
  obtain ⟨wz, hwz⟩ : ∃ wz, wz = ((w5.alloc (.cells #[.int .i64 x1, .int .i64 y1, .int .i64 z1] 36)).alloc (.cells #[.int .i64 x2, .int .i64 y2, .int .i64 z2] 36)).alloc (.cells #[.int .i64 x3, .int .i64 y3, .int .i64 z3] 36) := ⟨_, rfl⟩
  rw [← hwz] at h1 h2 h3 hb g1 tv ⊢
  clear hwz
  have v1 : Geo.PV x1 y1 z1 := ⟨by omega, by omega, by omega, by omega, by omega, by omega⟩
  have v2 : Geo.PV x2 y2 z2 := ⟨by omega, by omega, by omega, by omega, by omega, by omega⟩
  have v3 : Geo.PV (x1 + x3) (y1 + y3) (z1 + z3) := ⟨by omega, by omega, by omega, by omega, by omega, by omega⟩
  have v4 : Geo.PV (x2 + x3) (y2 + y3) (z2 + z3) := ⟨by omega, by omega, by omega, by omega, by omega, by omega⟩
  have t1 : Geo.sq3 x2 y2 z2 x1 y1 z1 = Geo.sq3 x1 y1 z1 x2 y2 z2 := by unfold Geo.sq3; grind
  have t2 : Geo.sq3 (x1 + x3) (y1 + y3) (z1 + z3) (x2 + x3) (y2 + y3) (z2 + z3) = Geo.sq3 x1 y1 z1 x2 y2 z2 := by unfold Geo.sq3; simp only [Int.add_sub_add_right]
  have m0 := (Trav.sq3_bd v1 v2).1
  have m9 : Geo.sq3 x1 y1 z1 x2 y2 z2 ≤ 180 * 180 := by
    obtain ⟨_, u1⟩ := Geo.prod_bd (u := x1 - x2) (m := 120) (by omega) (by omega)
    obtain ⟨_, u2⟩ := Geo.prod_bd (u := y1 - y2) (m := 120) (by omega) (by omega)
    obtain ⟨_, u3⟩ := Geo.prod_bd (u := z1 - z2) (m := 60) (by omega) (by omega)
    unfold Geo.sq3
    omega
  obtain ⟨ab, cr⟩ := Trav.ce_le (r := 180) m0 (by omega) (by omega) m9
  obtain ⟨A0, _, _, _⟩ := Root.rt_spec _ m0 (by omega)
  obtain ⟨qa, ha, la⟩ := Trav.idx_lo (s := s) (n := n) s1 A0 (by omega)
  obtain ⟨qd, hd, ld⟩ := Trav.idx_hi (s := s) (n := n) (x := Root.ce (Geo.sq3 x1 y1 z1 x2 y2 z2)) s1 (by omega) (by omega)
  have I1 := Lib.hid fun w h => Trav.interval_ok s b1 b2 n c1 c2 lo hi x1 y1 z1 x2 y2 z2 qa qd w h v1 v2 (by omega) ha hd
  have I2 := Lib.hid fun w h => Trav.interval_ok s b1 b2 n c1 c2 lo hi x2 y2 z2 x1 y1 z1 qa qd w h v2 v1 (by rw [t1]; omega) (by rw [t1]; exact ha) (by rw [t1]; exact hd)
  have I3 := Lib.hid fun w h => Trav.interval_ok s b1 b2 n c1 c2 lo hi (x1 + x3) (y1 + y3) (z1 + z3) (x2 + x3) (y2 + y3) (z2 + z3) qa qd w h v3 v4 (by rw [t2]; omega) (by rw [t2]; exact ha) (by rw [t2]; exact hd)
  have mad : qa ≤ qd := by
    have : Root.rt (Geo.sq3 x1 y1 z1 x2 y2 z2) 32 / s ≤ (Root.ce (Geo.sq3 x1 y1 z1 x2 y2 z2) + s - 1) / s := Int.ediv_le_ediv (by omega) (by omega)
    omega
  have fle : lo.getD qa 0 ≤ hi.getD qd 0 := Int.le_trans (tv.out.val qa la).2.1 (tv.out.mono qa qd mad ld).2
  clear t1 t2 ha hd la ld mad ab cr A0 m0 m9 v1 v2 v3 v4
  generalize lo.getD qa 0 = A1 at *
  generalize hi.getD qd 0 = B2 at *
  go_cut [8, 9] (fun s8 s9 wx => ∃ p q : Nat, s8 = .pointer (some ⟨p, 0, none⟩) ∧ s9 = .pointer (some ⟨q, 0, none⟩) ∧ Hid (wx.heap[w5.heap.size]? = some (.cells #[.int .i64 x1, .int .i64 y1, .int .i64 z1] 36 (0, 0))) ∧ Hid (wx.heap[w5.heap.size + 1]? = some (.cells #[.int .i64 x2, .int .i64 y2, .int .i64 z2] 36 (0, 0))) ∧ Hid (wx.heap[p]? = some (.cells #[.int .i64 (x1 + x3), .int .i64 (y1 + y3), .int .i64 (z1 + z3)] 36 (0, 0))) ∧ Hid (wx.heap[q]? = some (.cells #[.int .i64 (x2 + x3), .int .i64 (y2 + y3), .int .i64 (z2 + z3)] 36 (0, 0))) ∧ Hid (wx.heap[w2.heap.size]? = some (.cells #[.int .i64 s, .slice (some ⟨b1, 0, none⟩) n c1, .slice (some ⟨b2, 0, none⟩) n c2] 26)) ∧ Hid (Trav.TV wx s b1 b2 n lo hi) ∧ Hid (Below w.heap.size w wx))
  case first =>
    obtain ⟨kx1, ky1, kz1⟩ := Trav.tcells h1.out
    obtain ⟨kx2, ky2, kz2⟩ := Trav.tcells h2.out
    obtain ⟨kx3, ky3, kz3⟩ := Trav.tcells h3.out
    have n1 := World.new_ne wz _ kx1
    have n2 := World.new_ne wz _ kx2
    have n3 := World.new_ne wz _ kx3
    go_region_held3 (fun w' => w'.cell? ⟨w5.heap.size, 0, none⟩ = some (.int .i64 x1) ∧ w'.cell? ⟨w5.heap.size, 1, none⟩ = some (.int .i64 y1) ∧ w'.cell? ⟨w5.heap.size, 2, none⟩ = some (.int .i64 z1) ∧ w'.cell? ⟨w5.heap.size + 1, 0, none⟩ = some (.int .i64 x2) ∧ w'.cell? ⟨w5.heap.size + 1, 1, none⟩ = some (.int .i64 y2) ∧ w'.cell? ⟨w5.heap.size + 1, 2, none⟩ = some (.int .i64 z2) ∧ w'.cell? ⟨w5.heap.size + 1 + 1, 0, none⟩ = some (.int .i64 x3) ∧ w'.cell? ⟨w5.heap.size + 1 + 1, 1, none⟩ = some (.int .i64 y3) ∧ w'.cell? ⟨w5.heap.size + 1 + 1, 2, none⟩ = some (.int .i64 z3)) (go_keep) (fail)
    all_goals go_wp2_with fail
    all_goals go_meet
    all_goals go_unwrap
    · exact ⟨wz.heap.size, wz.heap.size + 1, rfl, rfl, Lib.hid (Trav.blk_alloc (Trav.blk_alloc h1.out _) _), Lib.hid (Trav.blk_alloc (Trav.blk_alloc h2.out _) _), Lib.hid (Trav.blk_alloc (Trav.blk_new wz _) _), Lib.hid (Geo.blk_new1 wz _ _), Lib.hid (Trav.blk_alloc (Trav.blk_alloc g1.out _) _), Lib.hid (tv.out.below (Trav.bel2 _ _).drew), Lib.hid (Below.drew (Buf.then_ hb.out (Trav.bel2 _ _)))⟩
    · exact ⟨wz.heap.size + 1, wz.heap.size, rfl, rfl, Lib.hid (Trav.blk_alloc (Trav.blk_alloc h1.out _) _), Lib.hid (Trav.blk_alloc (Trav.blk_alloc h2.out _) _), Lib.hid (Geo.blk_new1 wz _ _), Lib.hid (Trav.blk_alloc (Trav.blk_new wz _) _), Lib.hid (Trav.blk_alloc (Trav.blk_alloc g1.out _) _), Lib.hid (tv.out.below (Trav.bel2 _ _).drew), Lib.hid (Below.drew (Buf.then_ hb.out (Trav.bel2 _ _)))⟩
  case rest =>
    obtain ⟨p, q, rfl, rfl, h1, h2, h3, h4, g1, tv, hb⟩ := hcut
    obtain ⟨x1', x2', x3'⟩ := Trav.tcells g1.out
    obtain ⟨kx1, ky1, kz1⟩ := Trav.tcells h1.out
    obtain ⟨kx2, ky2, kz2⟩ := Trav.tcells h2.out
    go_wp2_with fail
    refine (I1.out _ tv.out).mono ?_
    rintro e0 w6 ⟨rfl, hc⟩
    replace g1 := Lib.hid (Trav.blk_b hc g1.out)
    replace h1 := Lib.hid (Trav.blk_b hc h1.out)
    replace h2 := Lib.hid (Trav.blk_b hc h2.out)
    replace h3 := Lib.hid (Trav.blk_b hc h3.out)
    replace h4 := Lib.hid (Trav.blk_b hc h4.out)
    replace tv := Lib.hid (tv.out.below hc)
    replace hb := Lib.hid (Buf.then_ hb.out hc)
    clear hc x1' x2' x3' kx1 ky1 kz1 kx2 ky2 kz2
    obtain ⟨x1', x2', x3'⟩ := Trav.tcells g1.out
    obtain ⟨kx1, ky1, kz1⟩ := Trav.tcells h2.out
    obtain ⟨kx2, ky2, kz2⟩ := Trav.tcells h1.out
    go_wp2_with fail
    refine (I2.out _ tv.out).mono ?_
    rintro e0 w7 ⟨rfl, hc⟩
    replace g1 := Lib.hid (Trav.blk_b hc g1.out)
    replace h1 := Lib.hid (Trav.blk_b hc h1.out)
    replace h2 := Lib.hid (Trav.blk_b hc h2.out)
    replace h3 := Lib.hid (Trav.blk_b hc h3.out)
    replace h4 := Lib.hid (Trav.blk_b hc h4.out)
    replace tv := Lib.hid (tv.out.below hc)
    replace hb := Lib.hid (Buf.then_ hb.out hc)
    clear hc x1' x2' x3' kx1 ky1 kz1 kx2 ky2 kz2
    obtain ⟨x1', x2', x3'⟩ := Trav.tcells g1.out
    obtain ⟨kx1, ky1, kz1⟩ := Trav.tcells h3.out
    obtain ⟨kx2, ky2, kz2⟩ := Trav.tcells h4.out
    go_wp2_with fail
    refine (I3.out _ tv.out).mono ?_
    rintro e0 w8 ⟨rfl, hc⟩
    replace g1 := Lib.hid (Trav.blk_b hc g1.out)
    replace h1 := Lib.hid (Trav.blk_b hc h1.out)
    replace h2 := Lib.hid (Trav.blk_b hc h2.out)
    replace h3 := Lib.hid (Trav.blk_b hc h3.out)
    replace h4 := Lib.hid (Trav.blk_b hc h4.out)
    replace tv := Lib.hid (tv.out.below hc)
    replace hb := Lib.hid (Buf.then_ hb.out hc)
    clear hc x1' x2' x3' kx1 ky1 kz1 kx2 ky2 kz2
    go_wp2_with (go_at_call 12; refine (Trav.awake_any _).mono ?_; rintro e0 w9 ⟨rfl, hc⟩; replace hb := Lib.hid (Buf.then_ hb.out hc); clear hc)
    go_ret
    exact ⟨rfl, hb.out⟩
end Laws
end Go.Proofs.Ytlfliochpnekdaa
