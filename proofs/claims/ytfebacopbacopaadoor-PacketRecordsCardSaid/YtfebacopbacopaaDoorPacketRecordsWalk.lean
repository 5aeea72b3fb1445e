/- The walk of PacketRecords. -/
import Derived.Test.YtfebacopbacopaaDoorPktI
import Derived.Laws.StructEq
import Derived.Deep.DeepCutAuto
set_option linter.unusedVariables false
set_option linter.unusedSimpArgs false
namespace Go.Proofs.YtfebacopbacopaaDoor
open Go.RowKit Dice
namespace Laws
open Pkt
set_option maxHeartbeats 8000000 in
set_option maxRecDepth 100000 in
theorem packetRecords_walk (a0 : Option Addr) (len0 cap0 : Nat) (z0 : List Int) (w : World) (hm : Sc.Mx w) (w0 : Buf.IsRow .i64 w a0 len0 cap0 z0) :
    Calls Tryd.prog 5 #[.slice a0 len0 cap0] w fun e w' => e = .returned (.bool true) ∧ Below w.heap.size w w' := by
  replace hm := Lib.hid hm
  by_cases hs : len0 ≤ 500
  · have hd : decide ((len0 : Int) ≤ 500) = true := by simp; omega
    go_enter Tryd.func5, Tryd.ntmps5
    go_upto_region 3 with (first | (go_at_call 7; refine (light_any _ _ _ _).mono ?_; rintro e w1 ⟨rfl, hw⟩; replace hw := hw.symm; subst hw; rw [hd]))
    go_wp2_with (go_at_call 9; refine (roll_any a0 len0 cap0 z0 _ w0 hs).mono ?_; rintro e w2 ⟨rfl, hdi⟩)
    refine (packet_any hdi).mono ?_
    rintro e w3 ⟨⟨s0, s1, s2, s3, ru, se, st, nu, de, cl, er, L, a, c, rfl, G, hR⟩, hl⟩
    have W3 := Lib.hid hl.di.bel
    obtain ⟨w4, hw4⟩ : ∃ w4, w4 = w3.alloc (.cells #[.string ⟨⟨s0⟩⟩, .string ⟨⟨s1⟩⟩, .string ⟨⟨s2⟩⟩, .string ⟨⟨s3⟩⟩, .int .i64 (ru : Int), .int .i64 (se : Int), .int .i64 (st : Int), .int .i64 (nu : Int), .int .i64 (de : Int), .int .i64 (cl : Int), .int .i64 (er : Int), .slice a L.length c] 34) := ⟨_, rfl⟩
    obtain ⟨p3, hp3⟩ : ∃ p, p = w3.heap.size := ⟨_, rfl⟩
    have hb : Below w3.heap.size w3 w4 := by rw [hw4]; exact new_block _
    have K3 := Lib.hid (show w4.heap[p3]? = some (.cells #[.string ⟨⟨s0⟩⟩, .string ⟨⟨s1⟩⟩, .string ⟨⟨s2⟩⟩, .string ⟨⟨s3⟩⟩, .int .i64 (ru : Int), .int .i64 (se : Int), .int .i64 (st : Int), .int .i64 (nu : Int), .int .i64 (de : Int), .int .i64 (cl : Int), .int .i64 (er : Int), .slice a L.length c] 34 (0, 0)) by rw [hw4, hp3]; exact heap_alloc_new w3 _)
    have RA := Lib.hid (hR.below hb)
    replace W3 := Lib.hid (W3.out.trans (hb.mono W3.out.size))
    obtain ⟨bd, hbd⟩ : ∃ bd : Int, bd = if cl = 2 then 1099511627776 else (er : Int) := ⟨_, rfl⟩
    have RC := Lib.hid (record_any G RA.out bd hbd)
    have cl9 := G.cl9
    have l1 := G.l1
    have l9 := G.l9
    replace hbd := Lib.hid hbd
    go_upto_region 4 with fail
    rw [← hw4, ← hp3]
    clear hw4 hp3 hb hR hl hdi G
    go_wp2_with ((with_reducible refine Mid.ldr 34 (.tmp 3) p3 34 #[.string ⟨⟨s0⟩⟩, .string ⟨⟨s1⟩⟩, .string ⟨⟨s2⟩⟩, .string ⟨⟨s3⟩⟩, .int .i64 (ru : Int), .int .i64 (se : Int), .int .i64 (st : Int), .int .i64 (nu : Int), .int .i64 (de : Int), .int .i64 (cl : Int), .int .i64 (er : Int), .slice a L.length c] K3.out ?_ ?_ ?_ ?_ ?_ ?_); (· rfl); (· rfl); (· first | rfl | simp [Act.eval]); (· exact ⟨_, rfl, rfl⟩); (· kernel_rfl))
    with_reducible refine RC.out.mono ?_
    rintro e w5 ⟨⟨gr, dr, rfl, hSR, hdr⟩, hb⟩
    replace K3 := Lib.hid (hbk hb K3.out)
    replace RA := Lib.hid (RA.out.below hb)
    replace W3 := Lib.hid (W3.out.trans (hb.mono W3.out.size))
    clear hb RC
    obtain ⟨w6, hw6⟩ : ∃ w6, w6 = w5.alloc (.cells #[.string ⟨⟨s0⟩⟩, .string ⟨⟨s1⟩⟩, .string ⟨⟨s2⟩⟩, .string ⟨⟨s3⟩⟩, .int .i64 (st : Int), .int .i64 0, .int .i64 (nu : Int), .int .i64 (de : Int), .int .i64 bd, .int .i64 (ru : Int), .int .i64 (se : Int), .slice (some ⟨gr, 0, none⟩) L.length dr] 50) := ⟨_, rfl⟩
    obtain ⟨p4, hp4⟩ : ∃ p, p = w5.heap.size := ⟨_, rfl⟩
    have hb : Below w5.heap.size w5 w6 := by rw [hw6]; exact new_block _
    have K4 := Lib.hid (show w6.heap[p4]? = some (.cells #[.string ⟨⟨s0⟩⟩, .string ⟨⟨s1⟩⟩, .string ⟨⟨s2⟩⟩, .string ⟨⟨s3⟩⟩, .int .i64 (st : Int), .int .i64 0, .int .i64 (nu : Int), .int .i64 (de : Int), .int .i64 bd, .int .i64 (ru : Int), .int .i64 (se : Int), .slice (some ⟨gr, 0, none⟩) L.length dr] 50 (0, 0)) by rw [hw6, hp4]; exact heap_alloc_new w5 _)
    replace K3 := Lib.hid (hbk hb K3.out)
    replace RA := Lib.hid (RA.out.below hb)
    have SRr := Lib.hid (hSR.below hb)
    replace W3 := Lib.hid (W3.out.trans (hb.mono W3.out.size))
    go_upto_region 5 with fail
    rw [← hw6, ← hp4]
    clear hw6 hp4 hb hSR
    obtain ⟨x0, x1, x2, x3, x4, x5, x6, x7, x8, x9, x10, x11⟩ := c12 K3.out
    obtain ⟨y0, y1, y2, y3, y4, y5, y6, y7, y8, y9, y10, y11⟩ := c12 K4.out
    go_wp2_with fail
    go_loopw [73] (fun v wr => ∃ j : Nat, j ≤ L.length ∧ v = .int .i64 j ∧ Hid (Below w6.heap.size w6 wr)) (fun v _ => L.length - (intOf v).toNat)
    case atStart => exact ⟨0, by omega, rfl, Lib.hid (Below.refl _ _)⟩
    case round =>
      obtain ⟨j, hj, rfl, BJ⟩ := hrel
      have J3 := Lib.hid (hbk BJ.out K3.out)
      have J4 := Lib.hid (hbk BJ.out K4.out)
      clear x0 x1 x2 x3 x4 x5 x6 x7 x8 x9 x10 x11 y0 y1 y2 y3 y4 y5 y6 y7 y8 y9 y10 y11
      obtain ⟨x0, x1, x2, x3, x4, x5, x6, x7, x8, x9, x10, x11⟩ := c12 J3.out
      obtain ⟨y0, y1, y2, y3, y4, y5, y6, y7, y8, y9, y10, y11⟩ := c12 J4.out
      by_cases hlt : j < L.length
      · obtain ⟨ga, oa, rfl, hga, hca⟩ := (RA.out.below BJ.out).at_ (by omega)
        have z1 := hca j (L.getD j 0) (by rw [List.getD_eq_getElem?_getD, List.getElem?_eq_getElem hlt]; rfl)
        have z2 := (SRr.out.below BJ.out).2 j hlt
        have jn : (j : Int) < (L.length : Int) := by omega
        generalize L.getD j 0 = xv at *
        clear hca
        go_upto_region 10 with fail
        go_quiet (fail)
        go_wp2_with fail
        go_roundw
        case rel => exact ⟨j + 1, by omega, by go_num, Lib.hid (Buf.below_drewN BJ.out _)⟩
        case measure => simp [intOf]; omega
      · have BW := Lib.hid (W3.out.trans (BJ.out.mono W3.out.size))
        have SN := Lib.hid (Pkt.sane_any (hm.out.next BW.out))
        by_cases hc : cl = 2
        · have hb2 := hbd.out
          rw [if_pos hc] at hb2
          subst hc hb2
          go_wp2_with (go_at_call 8; (with_reducible refine SN.out.mono ?_); rintro e wz ⟨rfl, hbz⟩)
          go_ret
          exact ⟨rfl, BW.out.trans (hbz.mono BW.out.size)⟩
        · have hb2 := hbd.out
          rw [if_neg hc] at hb2
          subst hb2
          have hc' : ((cl : Int) == 2) = false := by rw [beq_eq_false_iff_ne]; omega
          go_wp2_with (go_at_call 8; (with_reducible refine SN.out.mono ?_); rintro e wz ⟨rfl, hbz⟩)
          go_ret
          exact ⟨rfl, BW.out.trans (hbz.mono BW.out.size)⟩
  · have hd : decide ((len0 : Int) ≤ 500) = false := by simp; omega
    have SN := Lib.hid (Pkt.sane_any hm.out)
    go_enter Tryd.func5, Tryd.ntmps5
    go_wp2_with (first | (go_at_call 7; refine (light_any _ _ _ _).mono ?_; rintro e w1 ⟨rfl, hw⟩; replace hw := hw.symm; subst hw; rw [hd]) | (go_at_call 8; with_reducible refine SN.out.mono ?_; rintro e w2 ⟨rfl, hc⟩))
    go_ret
    exact ⟨rfl, hc⟩
end Laws
end Go.Proofs.YtfebacopbacopaaDoor
