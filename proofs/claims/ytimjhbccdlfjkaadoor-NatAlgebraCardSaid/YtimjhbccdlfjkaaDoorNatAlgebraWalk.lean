/- The walk of NatAlgebra. -/
import Derived.Test.YtimjhbccdlfjkaaDoorNtxQ
import Derived.Deep.DeepCutAuto
set_option linter.unusedVariables false
set_option linter.unusedSimpArgs false
namespace Go.Proofs.YtimjhbccdlfjkaaDoor
open Go.RowKit Dice Go.Lib
namespace Nt
theorem clAdd {w : World} {u v : Value} {x y : Int} {j k : Nat} (h : Num w u x j) (h' : Num w v y k) (hj : j ≤ 63) (hk : k ≤ 63) :
    Calls Tryd.prog 17 #[u, v] w fun e w' => (∃ r, e = .returned r ∧ Num w' r (x + y) (max j k + 1)) ∧ Below w.heap.size w w' := by
  have A := Lib.hid (add_num h h' hj hk)
  clear h h'
  go_enter Tryd.func17, Tryd.ntmps17
  go_wp2_with fail
  with_reducible refine A.out.mono ?_
  rintro e w1 ⟨⟨r, rfl, hn⟩, hb⟩
  go_wp2_with fail
  go_ret
  exact ⟨⟨r, rfl, hn⟩, hb⟩
theorem clMul {w : World} {u v : Value} {x y : Int} {j k : Nat} (h : Num w u x j) (h' : Num w v y k) (hj : j + k ≤ 64) :
    Calls Tryd.prog 18 #[u, v] w fun e w' => (∃ r, e = .returned r ∧ Num w' r (x * y) (j + k)) ∧ Below w.heap.size w w' := by
  have A := Lib.hid (mul_num h h' hj)
  clear h h'
  go_enter Tryd.func18, Tryd.ntmps18
  go_wp2_with fail
  with_reducible refine A.out.mono ?_
  rintro e w1 ⟨⟨r, rfl, hn⟩, hb⟩
  go_wp2_with fail
  go_ret
  exact ⟨⟨r, rfl, hn⟩, hb⟩
end Nt
namespace Laws
open Nt
set_option maxHeartbeats 16000000 in
set_option maxRecDepth 100000 in
theorem natAlgebra_walk (a0 : Option Addr) (len0 cap0 : Nat) (z0 : List Int) (a1 : Int) (w : World) (hT : Tab w) (T : ∀ w w', Tab w → Below w.heap.size w w' → Tab w') (w0 : Buf.IsRow .i64 w a0 len0 cap0 z0) (wf1 : (Lit.int .u16 a1).wf = true) :
    Calls Tryd.prog 4 #[.slice a0 len0 cap0, .int .u16 a1] w fun e w' => e = .returned (.bool true) ∧ Below w.heap.size w w' := by
  replace hT := Lib.hid hT
  have Sn := Lib.hid fun w1 (b : Below w.heap.size w w1) => Nt.sane_any w1 (T _ _ hT.out b) T
  obtain ⟨n0, n1⟩ : 0 ≤ a1 ∧ a1 ≤ 65535 := Ma.wf_u16 wf1
  clear wf1
  by_cases hs : len0 ≤ 500
  · have hd : decide ((len0 : Int) ≤ 500) = true := by simp; omega
    go_enter Tryd.func4, Tryd.ntmps4
    go_upto_region 4 with (first | (go_at_call 14; refine (light_any _ _ _ _).mono ?_; rintro e w1 ⟨rfl, hw⟩; replace hw := hw.symm; subst hw; rw [hd]) | (go_at_call 15; refine (roll_any a0 len0 cap0 z0 _ w0 hs).mono ?_; rintro e w2 ⟨rfl, hdi⟩))
    go_wp2_with fail
    with_reducible refine (nat_num 6 6 rfl hdi (by omega)).mono ?_
    rintro e w3 ⟨⟨va, A, rfl, NA⟩, l3⟩
    go_wp2_with fail
    with_reducible refine (nat_num 6 6 rfl l3.di (by omega)).mono ?_
    rintro e w4 ⟨⟨vb, B, rfl, NB⟩, l4⟩
    replace NA := NA.left l3.di l4
    go_wp2_with fail
    with_reducible refine (nat_num 6 6 rfl l4.di (by omega)).mono ?_
    rintro e w5 ⟨⟨vc, C, rfl, NC⟩, l5⟩
    replace NA := Lib.hid (NA.left l4.di l5)
    replace NB := Lib.hid (NB.left l4.di l5)
    replace NC := Lib.hid NC
    have BW := Lib.hid l5.di.bel
    have A0 := NA.out.nn
    have B0 := NB.out.nn
    clear l3 l4 l5 hdi
    go_wp2_with fail
    with_reducible refine (clAdd NA.out NB.out (by omega) (by omega)).mono ?_
    rintro e w6 ⟨⟨v1, rfl, N1⟩, hb⟩
    replace NA := Lib.hid (NA.out.below hb)
    replace NB := Lib.hid (NB.out.below hb)
    replace NC := Lib.hid (NC.out.below hb)
    replace N1 := Lib.hid N1
    replace BW := Lib.hid (Buf.then_ BW.out hb)
    clear hb
    go_wp2_with fail
    with_reducible refine (sub_num N1.out NB.out (by omega) (by omega) (by omega)).mono ?_
    rintro e w7 ⟨⟨v2, rfl, N2⟩, hb⟩
    replace NA := Lib.hid (NA.out.below hb)
    replace NB := Lib.hid (NB.out.below hb)
    replace NC := Lib.hid (NC.out.below hb)
    clear N1
    replace N2 := Lib.hid N2
    replace BW := Lib.hid (Buf.then_ BW.out hb)
    clear hb
    obtain ⟨kk, hkk⟩ : ∃ kk, kk = 1 + a1 := ⟨_, rfl⟩
    have k1 : 1 ≤ kk := by omega
    have k9 : kk ≤ 65536 := by omega
    have HK := Lib.hid (show 1 + a1 = kk from hkk.symm)
    clear hkk
    go_wp2_with fail
    rw [HK.out]
    with_reducible refine (div_num kk NA.out (by omega) k1 (by omega)).mono ?_
    rintro e w8 ⟨⟨vq, rfl, NQ⟩, hb⟩
    replace NA := Lib.hid (NA.out.below hb)
    replace NB := Lib.hid (NB.out.below hb)
    replace NC := Lib.hid (NC.out.below hb)
    replace N2 := Lib.hid (N2.out.below hb)
    replace NQ := Lib.hid NQ
    replace BW := Lib.hid (Buf.then_ BW.out hb)
    clear hb
    obtain ⟨q, hq⟩ : ∃ q, q = A / kk := ⟨_, rfl⟩
    obtain ⟨r, hr⟩ : ∃ r, r = A % kk := ⟨_, rfl⟩
    have hqr : q * kk + r = A := by rw [hq, hr, Int.mul_comm]; exact Int.mul_ediv_add_emod A kk
    have r0 : 0 ≤ r := by rw [hr]; exact Int.emod_nonneg _ (by omega)
    have r9 : r < kk := by rw [hr]; exact Int.emod_lt_of_pos _ (by omega)
    rw [← hq] at NQ
    rw [← hr]
    replace hq := Lib.hid hq
    replace hr := Lib.hid hr
    replace hqr := Lib.hid hqr
    skip
    go_wp2_with fail
    with_reducible refine (from_num kk _ (by omega) (by omega)).mono ?_
    rintro e w9 ⟨⟨vs, rfl, NS⟩, hb⟩
    replace NA := Lib.hid (NA.out.below hb)
    replace NB := Lib.hid (NB.out.below hb)
    replace NC := Lib.hid (NC.out.below hb)
    replace N2 := Lib.hid (N2.out.below hb)
    replace NQ := Lib.hid (NQ.out.below hb)
    replace NS := Lib.hid NS
    replace BW := Lib.hid (Buf.then_ BW.out hb)
    clear hb
    go_wp2_with fail
    with_reducible refine (from_num r _ (by omega) (by omega)).mono ?_
    rintro e w10 ⟨⟨vr, rfl, NR⟩, hb⟩
    replace NA := Lib.hid (NA.out.below hb)
    replace NB := Lib.hid (NB.out.below hb)
    replace NC := Lib.hid (NC.out.below hb)
    replace N2 := Lib.hid (N2.out.below hb)
    replace NQ := Lib.hid (NQ.out.below hb)
    replace NS := Lib.hid (NS.out.below hb)
    replace NR := Lib.hid NR
    replace BW := Lib.hid (Buf.then_ BW.out hb)
    clear hb
    go_wp2_with fail
    with_reducible refine (same_num N2.out NA.out (by grind)).mono ?_
    rintro e w11 ⟨rfl, hb⟩
    replace NA := Lib.hid (NA.out.below hb)
    replace NB := Lib.hid (NB.out.below hb)
    replace NC := Lib.hid (NC.out.below hb)
    clear N2
    replace NQ := Lib.hid (NQ.out.below hb)
    replace NS := Lib.hid (NS.out.below hb)
    replace NR := Lib.hid (NR.out.below hb)
    replace BW := Lib.hid (Buf.then_ BW.out hb)
    clear hb
    go_wp2_with fail
    with_reducible refine (clAdd NA.out NB.out (by omega) (by omega)).mono ?_
    rintro e w12 ⟨⟨v3, rfl, N3⟩, hb⟩
    replace NA := Lib.hid (NA.out.below hb)
    replace NB := Lib.hid (NB.out.below hb)
    replace NC := Lib.hid (NC.out.below hb)
    replace NQ := Lib.hid (NQ.out.below hb)
    replace NS := Lib.hid (NS.out.below hb)
    replace NR := Lib.hid (NR.out.below hb)
    replace N3 := Lib.hid N3
    replace BW := Lib.hid (Buf.then_ BW.out hb)
    clear hb
    go_wp2_with fail
    with_reducible refine (clAdd NB.out NA.out (by omega) (by omega)).mono ?_
    rintro e w13 ⟨⟨v4, rfl, N4⟩, hb⟩
    replace NA := Lib.hid (NA.out.below hb)
    replace NB := Lib.hid (NB.out.below hb)
    replace NC := Lib.hid (NC.out.below hb)
    replace NQ := Lib.hid (NQ.out.below hb)
    replace NS := Lib.hid (NS.out.below hb)
    replace NR := Lib.hid (NR.out.below hb)
    replace N3 := Lib.hid (N3.out.below hb)
    replace N4 := Lib.hid N4
    replace BW := Lib.hid (Buf.then_ BW.out hb)
    clear hb
    go_wp2_with fail
    with_reducible refine (same_num N3.out N4.out (by grind)).mono ?_
    rintro e w14 ⟨rfl, hb⟩
    replace NA := Lib.hid (NA.out.below hb)
    replace NB := Lib.hid (NB.out.below hb)
    replace NC := Lib.hid (NC.out.below hb)
    replace NQ := Lib.hid (NQ.out.below hb)
    replace NS := Lib.hid (NS.out.below hb)
    replace NR := Lib.hid (NR.out.below hb)
    clear N3
    clear N4
    replace BW := Lib.hid (Buf.then_ BW.out hb)
    clear hb
    go_wp2_with fail
    with_reducible refine (clMul NA.out NB.out (by omega)).mono ?_
    rintro e w15 ⟨⟨v5, rfl, N5⟩, hb⟩
    replace NA := Lib.hid (NA.out.below hb)
    replace NB := Lib.hid (NB.out.below hb)
    replace NC := Lib.hid (NC.out.below hb)
    replace NQ := Lib.hid (NQ.out.below hb)
    replace NS := Lib.hid (NS.out.below hb)
    replace NR := Lib.hid (NR.out.below hb)
    replace N5 := Lib.hid N5
    replace BW := Lib.hid (Buf.then_ BW.out hb)
    clear hb
    go_wp2_with fail
    with_reducible refine (clMul NB.out NA.out (by omega)).mono ?_
    rintro e w16 ⟨⟨v6, rfl, N6⟩, hb⟩
    replace NA := Lib.hid (NA.out.below hb)
    replace NB := Lib.hid (NB.out.below hb)
    replace NC := Lib.hid (NC.out.below hb)
    replace NQ := Lib.hid (NQ.out.below hb)
    replace NS := Lib.hid (NS.out.below hb)
    replace NR := Lib.hid (NR.out.below hb)
    replace N5 := Lib.hid (N5.out.below hb)
    replace N6 := Lib.hid N6
    replace BW := Lib.hid (Buf.then_ BW.out hb)
    clear hb
    go_wp2_with fail
    with_reducible refine (same_num N5.out N6.out (by grind)).mono ?_
    rintro e w17 ⟨rfl, hb⟩
    replace NA := Lib.hid (NA.out.below hb)
    replace NB := Lib.hid (NB.out.below hb)
    replace NC := Lib.hid (NC.out.below hb)
    replace NQ := Lib.hid (NQ.out.below hb)
    replace NS := Lib.hid (NS.out.below hb)
    replace NR := Lib.hid (NR.out.below hb)
    clear N5
    clear N6
    replace BW := Lib.hid (Buf.then_ BW.out hb)
    clear hb
    go_wp2_with fail
    with_reducible refine (clAdd NB.out NC.out (by omega) (by omega)).mono ?_
    rintro e w18 ⟨⟨v7, rfl, N7⟩, hb⟩
    replace NA := Lib.hid (NA.out.below hb)
    replace NB := Lib.hid (NB.out.below hb)
    replace NC := Lib.hid (NC.out.below hb)
    replace NQ := Lib.hid (NQ.out.below hb)
    replace NS := Lib.hid (NS.out.below hb)
    replace NR := Lib.hid (NR.out.below hb)
    replace N7 := Lib.hid N7
    replace BW := Lib.hid (Buf.then_ BW.out hb)
    clear hb
    go_wp2_with fail
    with_reducible refine (clAdd NA.out N7.out (by omega) (by omega)).mono ?_
    rintro e w19 ⟨⟨v8, rfl, N8⟩, hb⟩
    replace NA := Lib.hid (NA.out.below hb)
    replace NB := Lib.hid (NB.out.below hb)
    replace NC := Lib.hid (NC.out.below hb)
    replace NQ := Lib.hid (NQ.out.below hb)
    replace NS := Lib.hid (NS.out.below hb)
    replace NR := Lib.hid (NR.out.below hb)
    clear N7
    replace N8 := Lib.hid N8
    replace BW := Lib.hid (Buf.then_ BW.out hb)
    clear hb
    go_wp2_with fail
    with_reducible refine (clAdd NA.out NB.out (by omega) (by omega)).mono ?_
    rintro e w20 ⟨⟨v9, rfl, N9⟩, hb⟩
    replace NA := Lib.hid (NA.out.below hb)
    replace NB := Lib.hid (NB.out.below hb)
    replace NC := Lib.hid (NC.out.below hb)
    replace NQ := Lib.hid (NQ.out.below hb)
    replace NS := Lib.hid (NS.out.below hb)
    replace NR := Lib.hid (NR.out.below hb)
    replace N8 := Lib.hid (N8.out.below hb)
    replace N9 := Lib.hid N9
    replace BW := Lib.hid (Buf.then_ BW.out hb)
    clear hb
    go_wp2_with fail
    with_reducible refine (clAdd N9.out NC.out (by omega) (by omega)).mono ?_
    rintro e w21 ⟨⟨v10, rfl, N10⟩, hb⟩
    replace NA := Lib.hid (NA.out.below hb)
    replace NB := Lib.hid (NB.out.below hb)
    replace NC := Lib.hid (NC.out.below hb)
    replace NQ := Lib.hid (NQ.out.below hb)
    replace NS := Lib.hid (NS.out.below hb)
    replace NR := Lib.hid (NR.out.below hb)
    replace N8 := Lib.hid (N8.out.below hb)
    clear N9
    replace N10 := Lib.hid N10
    replace BW := Lib.hid (Buf.then_ BW.out hb)
    clear hb
    go_wp2_with fail
    with_reducible refine (same_num N8.out N10.out (by grind)).mono ?_
    rintro e w22 ⟨rfl, hb⟩
    replace NA := Lib.hid (NA.out.below hb)
    replace NB := Lib.hid (NB.out.below hb)
    replace NC := Lib.hid (NC.out.below hb)
    replace NQ := Lib.hid (NQ.out.below hb)
    replace NS := Lib.hid (NS.out.below hb)
    replace NR := Lib.hid (NR.out.below hb)
    clear N8
    clear N10
    replace BW := Lib.hid (Buf.then_ BW.out hb)
    clear hb
    go_wp2_with fail
    with_reducible refine (clMul NB.out NC.out (by omega)).mono ?_
    rintro e w23 ⟨⟨v11, rfl, N11⟩, hb⟩
    replace NA := Lib.hid (NA.out.below hb)
    replace NB := Lib.hid (NB.out.below hb)
    replace NC := Lib.hid (NC.out.below hb)
    replace NQ := Lib.hid (NQ.out.below hb)
    replace NS := Lib.hid (NS.out.below hb)
    replace NR := Lib.hid (NR.out.below hb)
    replace N11 := Lib.hid N11
    replace BW := Lib.hid (Buf.then_ BW.out hb)
    clear hb
    go_wp2_with fail
    with_reducible refine (clMul NA.out N11.out (by omega)).mono ?_
    rintro e w24 ⟨⟨v12, rfl, N12⟩, hb⟩
    replace NA := Lib.hid (NA.out.below hb)
    replace NB := Lib.hid (NB.out.below hb)
    replace NC := Lib.hid (NC.out.below hb)
    replace NQ := Lib.hid (NQ.out.below hb)
    replace NS := Lib.hid (NS.out.below hb)
    replace NR := Lib.hid (NR.out.below hb)
    clear N11
    replace N12 := Lib.hid N12
    replace BW := Lib.hid (Buf.then_ BW.out hb)
    clear hb
    go_wp2_with fail
    with_reducible refine (clMul NA.out NB.out (by omega)).mono ?_
    rintro e w25 ⟨⟨v13, rfl, N13⟩, hb⟩
    replace NA := Lib.hid (NA.out.below hb)
    replace NB := Lib.hid (NB.out.below hb)
    replace NC := Lib.hid (NC.out.below hb)
    replace NQ := Lib.hid (NQ.out.below hb)
    replace NS := Lib.hid (NS.out.below hb)
    replace NR := Lib.hid (NR.out.below hb)
    replace N12 := Lib.hid (N12.out.below hb)
    replace N13 := Lib.hid N13
    replace BW := Lib.hid (Buf.then_ BW.out hb)
    clear hb
    go_wp2_with fail
    with_reducible refine (clMul N13.out NC.out (by omega)).mono ?_
    rintro e w26 ⟨⟨v14, rfl, N14⟩, hb⟩
    replace NA := Lib.hid (NA.out.below hb)
    replace NB := Lib.hid (NB.out.below hb)
    replace NC := Lib.hid (NC.out.below hb)
    replace NQ := Lib.hid (NQ.out.below hb)
    replace NS := Lib.hid (NS.out.below hb)
    replace NR := Lib.hid (NR.out.below hb)
    replace N12 := Lib.hid (N12.out.below hb)
    clear N13
    replace N14 := Lib.hid N14
    replace BW := Lib.hid (Buf.then_ BW.out hb)
    clear hb
    go_wp2_with fail
    with_reducible refine (same_num N12.out N14.out (by grind)).mono ?_
    rintro e w27 ⟨rfl, hb⟩
    replace NA := Lib.hid (NA.out.below hb)
    replace NB := Lib.hid (NB.out.below hb)
    replace NC := Lib.hid (NC.out.below hb)
    replace NQ := Lib.hid (NQ.out.below hb)
    replace NS := Lib.hid (NS.out.below hb)
    replace NR := Lib.hid (NR.out.below hb)
    clear N12
    clear N14
    replace BW := Lib.hid (Buf.then_ BW.out hb)
    clear hb
    go_wp2_with fail
    with_reducible refine (clAdd NB.out NC.out (by omega) (by omega)).mono ?_
    rintro e w28 ⟨⟨v15, rfl, N15⟩, hb⟩
    replace NA := Lib.hid (NA.out.below hb)
    replace NB := Lib.hid (NB.out.below hb)
    replace NC := Lib.hid (NC.out.below hb)
    replace NQ := Lib.hid (NQ.out.below hb)
    replace NS := Lib.hid (NS.out.below hb)
    replace NR := Lib.hid (NR.out.below hb)
    replace N15 := Lib.hid N15
    replace BW := Lib.hid (Buf.then_ BW.out hb)
    clear hb
    go_wp2_with fail
    with_reducible refine (clMul NA.out N15.out (by omega)).mono ?_
    rintro e w29 ⟨⟨v16, rfl, N16⟩, hb⟩
    replace NA := Lib.hid (NA.out.below hb)
    replace NB := Lib.hid (NB.out.below hb)
    replace NC := Lib.hid (NC.out.below hb)
    replace NQ := Lib.hid (NQ.out.below hb)
    replace NS := Lib.hid (NS.out.below hb)
    replace NR := Lib.hid (NR.out.below hb)
    clear N15
    replace N16 := Lib.hid N16
    replace BW := Lib.hid (Buf.then_ BW.out hb)
    clear hb
    go_wp2_with fail
    with_reducible refine (clMul NA.out NB.out (by omega)).mono ?_
    rintro e w30 ⟨⟨v17, rfl, N17⟩, hb⟩
    replace NA := Lib.hid (NA.out.below hb)
    replace NB := Lib.hid (NB.out.below hb)
    replace NC := Lib.hid (NC.out.below hb)
    replace NQ := Lib.hid (NQ.out.below hb)
    replace NS := Lib.hid (NS.out.below hb)
    replace NR := Lib.hid (NR.out.below hb)
    replace N16 := Lib.hid (N16.out.below hb)
    replace N17 := Lib.hid N17
    replace BW := Lib.hid (Buf.then_ BW.out hb)
    clear hb
    go_wp2_with fail
    with_reducible refine (clMul NA.out NC.out (by omega)).mono ?_
    rintro e w31 ⟨⟨v18, rfl, N18⟩, hb⟩
    replace NA := Lib.hid (NA.out.below hb)
    replace NB := Lib.hid (NB.out.below hb)
    replace NC := Lib.hid (NC.out.below hb)
    replace NQ := Lib.hid (NQ.out.below hb)
    replace NS := Lib.hid (NS.out.below hb)
    replace NR := Lib.hid (NR.out.below hb)
    replace N16 := Lib.hid (N16.out.below hb)
    replace N17 := Lib.hid (N17.out.below hb)
    replace N18 := Lib.hid N18
    replace BW := Lib.hid (Buf.then_ BW.out hb)
    clear hb
    go_wp2_with fail
    with_reducible refine (clAdd N17.out N18.out (by omega) (by omega)).mono ?_
    rintro e w32 ⟨⟨v19, rfl, N19⟩, hb⟩
    replace NA := Lib.hid (NA.out.below hb)
    replace NB := Lib.hid (NB.out.below hb)
    replace NC := Lib.hid (NC.out.below hb)
    replace NQ := Lib.hid (NQ.out.below hb)
    replace NS := Lib.hid (NS.out.below hb)
    replace NR := Lib.hid (NR.out.below hb)
    replace N16 := Lib.hid (N16.out.below hb)
    clear N17
    clear N18
    replace N19 := Lib.hid N19
    replace BW := Lib.hid (Buf.then_ BW.out hb)
    clear hb
    go_wp2_with fail
    with_reducible refine (same_num N16.out N19.out (by grind)).mono ?_
    rintro e w33 ⟨rfl, hb⟩
    replace NA := Lib.hid (NA.out.below hb)
    clear NB
    clear NC
    replace NQ := Lib.hid (NQ.out.below hb)
    replace NS := Lib.hid (NS.out.below hb)
    replace NR := Lib.hid (NR.out.below hb)
    clear N16
    clear N19
    replace BW := Lib.hid (Buf.then_ BW.out hb)
    clear hb
    go_wp2_with fail
    with_reducible refine (clMul NQ.out NS.out (by omega)).mono ?_
    rintro e w34 ⟨⟨v20, rfl, N20⟩, hb⟩
    replace NA := Lib.hid (NA.out.below hb)
    replace NQ := Lib.hid (NQ.out.below hb)
    replace NS := Lib.hid (NS.out.below hb)
    replace NR := Lib.hid (NR.out.below hb)
    replace N20 := Lib.hid N20
    replace BW := Lib.hid (Buf.then_ BW.out hb)
    clear hb
    go_wp2_with fail
    with_reducible refine (clAdd N20.out NR.out (by omega) (by omega)).mono ?_
    rintro e w35 ⟨⟨v21, rfl, N21⟩, hb⟩
    replace NA := Lib.hid (NA.out.below hb)
    replace NQ := Lib.hid (NQ.out.below hb)
    replace NS := Lib.hid (NS.out.below hb)
    replace NR := Lib.hid (NR.out.below hb)
    clear N20
    replace N21 := Lib.hid N21
    replace BW := Lib.hid (Buf.then_ BW.out hb)
    clear hb
    have hfin := hqr.out
    go_wp2_with fail
    with_reducible refine (same_num N21.out NA.out (by grind)).mono ?_
    rintro e w36 ⟨rfl, hb⟩
    replace NA := Lib.hid (NA.out.below hb)
    replace NQ := Lib.hid (NQ.out.below hb)
    replace NS := Lib.hid (NS.out.below hb)
    replace NR := Lib.hid (NR.out.below hb)
    clear N21
    replace BW := Lib.hid (Buf.then_ BW.out hb)
    clear hb
    go_wp2_with fail
    refine (Sn.out _ BW.out).mono ?_
    rintro e wz ⟨rfl, hb⟩
    go_wp2_with fail
    go_ret
    exact ⟨rfl, Buf.then_ BW.out hb⟩
  · have hd : decide ((len0 : Int) ≤ 500) = false := by simp; omega
    go_enter Tryd.func4, Tryd.ntmps4
    go_wp2_with (first | (go_at_call 14; refine (light_any _ _ _ _).mono ?_; rintro e w1 ⟨rfl, rfl⟩; rw [hd]) | (go_at_call 13; refine (Sn.out _ (Below.refl _ _)).mono ?_; rintro e w2 ⟨rfl, hb⟩))
    go_ret
    exact ⟨rfl, hb⟩
end Laws
end Go.Proofs.YtimjhbccdlfjkaaDoor
