/- The walk of PacketBack. -/
import Derived.Test.YtfebacopbacopaaDoorPktAH
import Derived.Deep.DeepCutAuto
set_option linter.unusedVariables false
set_option linter.unusedSimpArgs false
namespace Go.Proofs.YtfebacopbacopaaDoor
open Go.RowKit Dice
namespace Laws
open Pkt
set_option maxHeartbeats 8000000 in
set_option maxRecDepth 100000 in
theorem packetBack_walk (a0 : Option Addr) (len0 cap0 : Nat) (z0 : List Int) (w : World) (hm : Sc.Mx w) (w0 : Buf.IsRow .i64 w a0 len0 cap0 z0) :
    Calls Tryd.prog 3 #[.slice a0 len0 cap0] w fun e w' => e = .returned (.bool true) ∧ Below w.heap.size w w' := by
  replace hm := Lib.hid hm
  by_cases hs : len0 ≤ 500
  · have hd : decide ((len0 : Int) ≤ 500) = true := by simp; omega
    go_enter Tryd.func3, Tryd.ntmps3
    go_upto_region 4 with (first | (go_at_call 7; refine (light_any _ _ _ _).mono ?_; rintro e w1 ⟨rfl, hw⟩; replace hw := hw.symm; subst hw; rw [hd]) | (go_at_call 9; refine (roll_any a0 len0 cap0 z0 _ w0 hs).mono ?_; rintro e w2 ⟨rfl, hdi⟩))
    go_wp2_with fail
    refine (packet_any hdi).mono ?_
    rintro e w3 ⟨⟨s0, s1, s2, s3, ru, se, st, nu, de, cl, er, L, a, c, rfl, G, hR⟩, hl⟩
    have W3 := Lib.hid hl.di.bel
    have LG := lng_pk G
    have SY := (says_pk G).len
    have EN0 := fun w' a c (h : St.Ro w' a L.length c L) => encode_any (w := w') G h
    have LS0 := fun w' => length_any _ _ _ LG.h31 LG.h9 LG.hm LG.ht LG.hf LG.t8 LG.t15 LG.f1 LG.f8 w'
    have DE0 := fun w' (h : Sc.Mx w') => decode_ok (w := w') G h
    have SM := Lib.hid fun w' a c b d (h : St.Ro w' a L.length c L) (h' : St.Ro w' b L.length d L) => same_any (w := w') (s0 := s0) (s1 := s1) (s2 := s2) (s3 := s3) (ru := ru) (se := se) (st := st) (nu := nu) (de := de) (cl := cl) (er := er) (L := L) h h'
    have SN := Lib.hid fun w' (h : Sc.Mx w') => Pkt.sane_any (w := w') h
    generalize (pk (flds cl ru se st nu de er L.length (Sc.j4 s0 s1 s2 s3).length (St.fo (St.wds (St.df L)).length)) (Sc.j4 s0 s1 s2 s3) (St.enc L)) = l at *
    obtain ⟨n, hn⟩ : ∃ n, n = 31 + (Sc.j4 s0 s1 s2 s3).length + St.fo (St.wds (St.df L)).length * 64 + 4 := ⟨_, rfl⟩
    rw [← hn] at LS0
    have hln : n = l.length := by omega
    rw [hln] at LS0
    replace EN0 := Lib.hid EN0
    replace LS0 := Lib.hid LS0
    replace DE0 := Lib.hid DE0
    clear hl hdi LG SY G hn hln
    obtain ⟨w4, hw4⟩ : ∃ w4, w4 = w3.alloc (.cells #[.string ⟨⟨s0⟩⟩, .string ⟨⟨s1⟩⟩, .string ⟨⟨s2⟩⟩, .string ⟨⟨s3⟩⟩, .int .i64 (ru : Int), .int .i64 (se : Int), .int .i64 (st : Int), .int .i64 (nu : Int), .int .i64 (de : Int), .int .i64 (cl : Int), .int .i64 (er : Int), .slice a L.length c] 34) := ⟨_, rfl⟩
    obtain ⟨p4, hp4⟩ : ∃ p, p = w3.heap.size := ⟨_, rfl⟩
    have hb : Below w3.heap.size w3 w4 := by rw [hw4]; exact new_block _
    have K4 := Lib.hid (show w4.heap[p4]? = some (.cells #[.string ⟨⟨s0⟩⟩, .string ⟨⟨s1⟩⟩, .string ⟨⟨s2⟩⟩, .string ⟨⟨s3⟩⟩, .int .i64 (ru : Int), .int .i64 (se : Int), .int .i64 (st : Int), .int .i64 (nu : Int), .int .i64 (de : Int), .int .i64 (cl : Int), .int .i64 (er : Int), .slice a L.length c] 34 (0, 0)) by rw [hw4, hp4]; exact heap_alloc_new w3 _)
    have RA := Lib.hid (hR.below hb)
    replace W3 := Lib.hid (W3.out.trans (hb.mono (by have := W3.out.size; omega)))
    go_upto_region 5 with fail
    rw [← hw4, ← hp4]
    clear hw4 hp4 hb hR
    go_wp2_with ((with_reducible refine Mid.ldr 34 (.tmp 4) p4 34 #[.string ⟨⟨s0⟩⟩, .string ⟨⟨s1⟩⟩, .string ⟨⟨s2⟩⟩, .string ⟨⟨s3⟩⟩, .int .i64 (ru : Int), .int .i64 (se : Int), .int .i64 (st : Int), .int .i64 (nu : Int), .int .i64 (de : Int), .int .i64 (cl : Int), .int .i64 (er : Int), .slice a L.length c] K4.out ?_ ?_ ?_ ?_ ?_ ?_); (· rfl); (· rfl); (· first | rfl | simp [Act.eval]); (· exact ⟨_, rfl, rfl⟩); (· kernel_rfl))
    with_reducible refine (EN0.out _ a c RA.out).mono ?_
    rintro e w5 ⟨rfl, hb⟩
    replace K4 := Lib.hid (hbk hb K4.out)
    replace RA := Lib.hid (RA.out.below hb)
    replace W3 := Lib.hid (W3.out.trans (hb.mono (by have := W3.out.size; omega)))
    clear hb
    go_wp2_with fail
    with_reducible refine (DE0.out _ (hm.out.next W3.out)).mono ?_
    rintro e w6 ⟨⟨sa, sc, rfl, hR⟩, hb⟩
    replace K4 := Lib.hid (hbk hb K4.out)
    replace RA := Lib.hid (RA.out.below hb)
    replace W3 := Lib.hid (W3.out.trans (hb.mono (by have := W3.out.size; omega)))
    clear hb
    obtain ⟨w7, hw7⟩ : ∃ w7, w7 = w6.alloc (.cells #[.string ⟨⟨s0⟩⟩, .string ⟨⟨s1⟩⟩, .string ⟨⟨s2⟩⟩, .string ⟨⟨s3⟩⟩, .int .i64 (ru : Int), .int .i64 (se : Int), .int .i64 (st : Int), .int .i64 (nu : Int), .int .i64 (de : Int), .int .i64 (cl : Int), .int .i64 (er : Int), .slice sa L.length sc] 34) := ⟨_, rfl⟩
    obtain ⟨p7, hp7⟩ : ∃ p, p = w6.heap.size := ⟨_, rfl⟩
    have hb : Below w6.heap.size w6 w7 := by rw [hw7]; exact new_block _
    have K7 := Lib.hid (show w7.heap[p7]? = some (.cells #[.string ⟨⟨s0⟩⟩, .string ⟨⟨s1⟩⟩, .string ⟨⟨s2⟩⟩, .string ⟨⟨s3⟩⟩, .int .i64 (ru : Int), .int .i64 (se : Int), .int .i64 (st : Int), .int .i64 (nu : Int), .int .i64 (de : Int), .int .i64 (cl : Int), .int .i64 (er : Int), .slice sa L.length sc] 34 (0, 0)) by rw [hw7, hp7]; exact heap_alloc_new w6 _)
    have RB := Lib.hid (hR.below hb)
    replace RA := Lib.hid (RA.out.below hb)
    replace K4 := Lib.hid (hbk hb K4.out)
    replace W3 := Lib.hid (W3.out.trans (hb.mono (by have := W3.out.size; omega)))
    go_upto_region 7 with fail
    rw [← hw7, ← hp7]
    clear hw7 hp7 hb hR
    go_wp2_with ((with_reducible refine Mid.ldr 34 (.tmp 7) p7 34 #[.string ⟨⟨s0⟩⟩, .string ⟨⟨s1⟩⟩, .string ⟨⟨s2⟩⟩, .string ⟨⟨s3⟩⟩, .int .i64 (ru : Int), .int .i64 (se : Int), .int .i64 (st : Int), .int .i64 (nu : Int), .int .i64 (de : Int), .int .i64 (cl : Int), .int .i64 (er : Int), .slice sa L.length sc] K7.out ?_ ?_ ?_ ?_ ?_ ?_); (· rfl); (· rfl); (· first | rfl | simp [Act.eval]); (· exact ⟨_, rfl, rfl⟩); (· kernel_rfl))
    with_reducible refine (EN0.out _ sa sc RB.out).mono ?_
    rintro e w8 ⟨rfl, hb⟩
    replace K4 := Lib.hid (hbk hb K4.out)
    replace K7 := Lib.hid (hbk hb K7.out)
    replace RA := Lib.hid (RA.out.below hb)
    replace RB := Lib.hid (RB.out.below hb)
    replace W3 := Lib.hid (W3.out.trans (hb.mono (by have := W3.out.size; omega)))
    clear hb
    go_wp2_with fail
    with_reducible refine (LS0.out _).mono ?_
    rintro e w9 ⟨rfl, hb⟩
    replace K4 := Lib.hid (hbk hb K4.out)
    replace K7 := Lib.hid (hbk hb K7.out)
    replace RA := Lib.hid (RA.out.below hb)
    replace RB := Lib.hid (RB.out.below hb)
    replace W3 := Lib.hid (W3.out.trans (hb.mono (by have := W3.out.size; omega)))
    clear hb
    go_wp2_with (first | ((with_reducible refine Mid.ldrg 34 (.tmp 4) p4 34 #[.string ⟨⟨s0⟩⟩, .string ⟨⟨s1⟩⟩, .string ⟨⟨s2⟩⟩, .string ⟨⟨s3⟩⟩, .int .i64 (ru : Int), .int .i64 (se : Int), .int .i64 (st : Int), .int .i64 (nu : Int), .int .i64 (de : Int), .int .i64 (cl : Int), .int .i64 (er : Int), .slice a L.length c] K4.out ?_ ?_ ?_ ?_ ?_ ?_); (· rfl); (· first | rfl | simp [Region.wanted, yielded]); (· first | rfl | simp [Act.eval]); (· exact ⟨_, rfl, rfl⟩); (· kernel_rfl)) | ((with_reducible refine Mid.ldrg 34 (.tmp 7) p7 34 #[.string ⟨⟨s0⟩⟩, .string ⟨⟨s1⟩⟩, .string ⟨⟨s2⟩⟩, .string ⟨⟨s3⟩⟩, .int .i64 (ru : Int), .int .i64 (se : Int), .int .i64 (st : Int), .int .i64 (nu : Int), .int .i64 (de : Int), .int .i64 (cl : Int), .int .i64 (er : Int), .slice sa L.length sc] K7.out ?_ ?_ ?_ ?_ ?_ ?_); (· rfl); (· first | rfl | simp [Region.wanted, yielded]); (· first | rfl | simp [Act.eval]); (· exact ⟨_, rfl, rfl⟩); (· kernel_rfl)) | (go_at_call 14; (with_reducible refine (SM.out _ a c sa sc RA.out RB.out).mono ?_); rintro e w10 ⟨rfl, hb⟩; (replace W3 := Lib.hid (W3.out.trans (hb.mono (by have := W3.out.size; omega))))) | (go_at_call 8; (with_reducible refine (SN.out _ (hm.out.next W3.out)).mono ?_); rintro e w11 ⟨rfl, hb11⟩))
    go_ret
    exact ⟨rfl, W3.out.trans (hb11.mono (by have := W3.out.size; omega))⟩
  · have hd : decide ((len0 : Int) ≤ 500) = false := by simp; omega
    have SN := Lib.hid (Pkt.sane_any hm.out)
    go_enter Tryd.func3, Tryd.ntmps3
    go_wp2_with (first | (go_at_call 7; refine (light_any _ _ _ _).mono ?_; rintro e w1 ⟨rfl, hw⟩; replace hw := hw.symm; subst hw; rw [hd]) | (go_at_call 8; with_reducible refine SN.out.mono ?_; rintro e w2 ⟨rfl, hc⟩))
    go_ret
    exact ⟨rfl, hc⟩
end Laws
end Go.Proofs.YtfebacopbacopaaDoor
