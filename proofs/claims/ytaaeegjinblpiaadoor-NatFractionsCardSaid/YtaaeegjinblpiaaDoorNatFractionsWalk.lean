/- The walk of NatFractions. -/
import Derived.Test.YtaaeegjinblpiaaDoorNtxG
import Derived.Test.YtaaeegjinblpiaaDoorInvB
set_option linter.unusedVariables false
set_option linter.unusedSimpArgs false
namespace Go.Proofs.YtaaeegjinblpiaaDoor
open Go.RowKit Dice Go.Lib
namespace Nt
theorem clOne {w : World} {u v : Value} {y : Int} {j b : Nat} (h : Num w u y j) (h' : Num w v 1 1) (hj : j ≤ 63) (hb : w.heap[b]? = some (.cells #[v] 25 (0, 0))) :
    Calls Tryd.prog 20 #[u, .pointer (some ⟨b, 0, none⟩)] w fun e w' => (∃ r, e = .returned r ∧ Num w' r (y + 1) (max j 1 + 1)) ∧ Below w.heap.size w w' := by
  have A := Lib.hid (add_num h h' hj (by omega))
  have k0 := cell_of_row w b 0 _ _ _ hb
  clear h h' hb
  go_enter Tryd.func20, Tryd.ntmps20
  go_wp2_with fail
  with_reducible refine A.out.mono ?_
  rintro e w1 ⟨⟨r, rfl, hn⟩, hb⟩
  go_wp2_with fail
  go_ret
  exact ⟨⟨r, rfl, hn⟩, hb⟩
theorem dec_scale (A B n : Int) (h : 0 < n) : decide (A * n < B * n) = decide (A < B) := by
  rw [decide_eq_decide]; exact Int.mul_lt_mul_right h
theorem dec_pos (pa Qa kk : Int) (pa0 : 0 ≤ pa) (Qa0 : 0 < Qa) : decide (pa * kk * Qa < pa * (Qa * (kk + 1))) = decide (0 < pa) := by
  rw [decide_eq_decide, show pa * (Qa * (kk + 1)) = pa * kk * Qa + pa * Qa by grind]
  constructor
  · intro h
    rcases Int.lt_or_le 0 pa with h1 | h1
    · exact h1
    · have h2 : pa = 0 := by omega
      rw [h2] at h; simp at h
  · intro h
    have := Int.mul_pos h Qa0
    omega
end Nt
namespace Laws
open Nt
set_option maxHeartbeats 16000000 in
set_option maxRecDepth 100000 in
theorem natFractions_walk (a0 : Option Addr) (len0 cap0 : Nat) (z0 : List Int) (a1 : Int) (w : World) (hT : Tab w) (T : ∀ w w', Tab w → Below w.heap.size w w' → Tab w') (w0 : Buf.IsRow .i64 w a0 len0 cap0 z0) (wf1 : (Lit.int .u16 a1).wf = true) :
    Calls Tryd.prog 5 #[.slice a0 len0 cap0, .int .u16 a1] w fun e w' => e = .returned (.bool true) ∧ Below w.heap.size w w' := by
  replace hT := Lib.hid hT
  have Sn := Lib.hid fun w1 (b : Below w.heap.size w w1) => Nt.sane_any w1 (T _ _ hT.out b) T
  obtain ⟨n0, n1⟩ : 0 ≤ a1 ∧ a1 ≤ 65535 := Ma.wf_u16 wf1
  clear wf1
  by_cases hs : len0 ≤ 500
  · have hd : decide ((len0 : Int) ≤ 500) = true := by simp; omega
    go_enter Tryd.func5, Tryd.ntmps5
    go_upto_region 4 with (first | (go_at_call 13; refine (light_any _ _ _ _).mono ?_; rintro e w1 ⟨rfl, hw⟩; replace hw := hw.symm; subst hw; rw [hd]) | (go_at_call 14; refine (roll_any a0 len0 cap0 z0 _ w0 hs).mono ?_; rintro e w2 ⟨rfl, hdi⟩))
    obtain ⟨q, hq⟩ : ∃ q, q = w2.heap.size := ⟨_, rfl⟩
    obtain ⟨w3, hw3⟩ : ∃ w3, w3 = (w2.alloc (.cells #[.int .i64 1] 3)).alloc (.cells #[.slice (some ⟨q, 0, none⟩) 1 1] 25) := ⟨_, rfl⟩
    have zq : (w2.alloc (.cells #[.int .i64 1] 3)).heap.size = q + 1 := by rw [sz1, hq]
    have B3 := Lib.hid (show Below w2.heap.size w2 w3 by rw [hw3]; exact Buf.then_ (new_block _) (new_block _))
    have N1 := Lib.hid (show Num w3 (.slice (some ⟨q, 0, none⟩) 1 1) 1 1 by
      rw [hw3, hq]
      exact ⟨_, _, _, [1], rfl, (nr_new w2 [1] _ 3 1 rfl rfl (by omega)).below (new_block _), ⟨by decide, fun x hx => by simp at hx; omega⟩, by decide, Nat.le_refl _⟩)
    have X3 := Lib.hid (show w3.heap[q + 1]? = some (.cells #[.slice (some ⟨q, 0, none⟩) 1 1] 25 (0, 0)) by rw [hw3, ← zq]; exact heap_alloc_new _ _)
    have D3 := Lib.hid (hdi.below B3.out)
    have hg : Hid (w.heap.size < q) := Lib.hid (by rw [hq]; exact hdi.lt)
    go_wp2_with fail
    rw [← hq, ← hw3]
    replace hw3 := Lib.hid hw3
    replace hq := Lib.hid hq
    clear hdi zq B3
    with_reducible refine (nat_num 4 4 rfl D3.out (by omega)).mono ?_
    rintro e w4 ⟨⟨va, pa, rfl, NA⟩, l4⟩
    obtain ⟨aa, an, ac, La, rfl, ra, la, ea, ka⟩ := id NA
    have hlen : Hid ((0 : Int) < an ↔ 0 < pa) := Lib.hid (by
      rw [← ea]
      constructor
      · intro h
        have := vl_pos La la (fun e => by have := ra.len; rw [e] at this; simp at this; omega)
        omega
      · intro h
        rcases Nat.eq_zero_or_pos an with h0 | h0
        · have hl := ra.len
          rw [h0] at hl
          have : La = [] := List.eq_nil_of_length_eq_zero hl.symm
          rw [this] at h; simp [vl] at h
        · omega)
    clear ra la ea
    have N1a := N1.out.left D3.out l4
    have X4 := (l4.far.block (q + 1) (Array.getElem?_eq_some_iff.1 X3.out).1 (by intro e; have := Option.some.inj e; have := hg.out; omega)).trans X3.out
    clear N1 X3
    go_wp2_with fail
    with_reducible refine (nat_num 4 4 rfl l4.di (by omega)).mono ?_
    rintro e w5 ⟨⟨vy, qa, rfl, NY⟩, l5⟩
    replace NA := Lib.hid (NA.left l4.di l5)
    replace N1a := N1a.left l4.di l5
    replace X4 := Lib.hid ((l5.far.block (q + 1) (Array.getElem?_eq_some_iff.1 X4).1 (by intro e; have := Option.some.inj e; have := hg.out; omega)).trans X4)
    have CO := Lib.hid (clOne NY N1a (by omega) X4.out)
    have NY0 := NY.nn
    replace N1a := Lib.hid N1a
    replace l5 := Lib.hid l5
    clear l4 D3 NY
    go_wp2_with fail
    with_reducible refine CO.out.mono ?_
    rintro e w6 ⟨⟨vb, rfl, NB⟩, b6⟩
    obtain ⟨ba, bn, bc, _, rfl, _⟩ := id NB
    have D6 := Lib.hid (l5.out.di.below b6)
    replace NA := Lib.hid (NA.out.below b6)
    replace N1a := Lib.hid (N1a.out.below b6)
    replace X4 := Lib.hid (hb b6 X4.out)
    clear b6 l5 CO
    go_wp2_with fail
    with_reducible refine (nat_num 4 4 rfl D6.out (by omega)).mono ?_
    rintro e w7 ⟨⟨vc, pb, rfl, NC⟩, l7⟩
    obtain ⟨ca, cn, cc, _, rfl, _⟩ := id NC
    replace NA := NA.out.left D6.out l7
    replace NB := NB.left D6.out l7
    replace N1a := N1a.out.left D6.out l7
    replace X4 := (l7.far.block (q + 1) (Array.getElem?_eq_some_iff.1 X4.out).1 (by intro e; have := Option.some.inj e; have := hg.out; omega)).trans X4.out
    go_wp2_with fail
    with_reducible refine (nat_num 4 4 rfl l7.di (by omega)).mono ?_
    rintro e w8 ⟨⟨vz, qb, rfl, NZ⟩, l8⟩
    replace NA := Lib.hid (NA.left l7.di l8)
    replace NB := Lib.hid (NB.left l7.di l8)
    replace NC := Lib.hid (NC.left l7.di l8)
    replace N1a := N1a.left l7.di l8
    replace X4 := Lib.hid ((l8.far.block (q + 1) (Array.getElem?_eq_some_iff.1 X4).1 (by intro e; have := Option.some.inj e; have := hg.out; omega)).trans X4)
    have CO := Lib.hid (clOne NZ N1a (by omega) X4.out)
    have NZ0 := NZ.nn
    replace N1a := Lib.hid N1a
    have B8 := Lib.hid l8.di.bel
    clear l7 l8 D6 NZ
    go_wp2_with fail
    with_reducible refine CO.out.mono ?_
    rintro e w9 ⟨⟨vd, rfl, ND⟩, b9⟩
    obtain ⟨da, dn, dc, _, rfl, _⟩ := id ND
    replace NA := NA.out.below b9
    replace NB := NB.out.below b9
    replace NC := NC.out.below b9
    replace N1a := Lib.hid (N1a.out.below b9)
    replace X4 := Lib.hid (hb b9 X4.out)
    have B9 := Lib.hid (Buf.then_ B8.out b9)
    clear b9 CO B8
    have pa0 := NA.nn
    have pb0 := NC.nn
    replace NA := Lib.hid NA
    replace NB := Lib.hid NB
    replace NC := Lib.hid NC
    replace ND := Lib.hid ND
    obtain ⟨Qa, hQa⟩ : ∃ Q, Q = qa + 1 := ⟨_, rfl⟩
    obtain ⟨Qb, hQb⟩ : ∃ Q, Q = qb + 1 := ⟨_, rfl⟩
    rw [← hQa] at NB
    rw [← hQb] at ND
    have Qa0 : 0 < Qa := by omega
    have Qb0 : 0 < Qb := by omega
    clear hQa hQb NY0 NZ0
    obtain ⟨x8, hx8⟩ : ∃ x, x = w9.heap.size := ⟨_, rfl⟩
    obtain ⟨w10, hw10⟩ : ∃ w', w' = (w9.alloc (.cells #[.slice aa an ac, .slice ba bn bc] 47)).alloc (.cells #[.slice ca cn cc, .slice da dn dc] 47) := ⟨_, rfl⟩
    have zq : (w9.alloc (.cells #[.slice aa an ac, .slice ba bn bc] 47)).heap.size = x8 + 1 := by rw [sz1, hx8]
    have b10 := Lib.hid (show Below w9.heap.size w9 w10 by rw [hw10]; exact Buf.then_ (new_block _) (new_block _))
    have K8 := Lib.hid (show w10.heap[x8]? = some (.cells #[.slice aa an ac, .slice ba bn bc] 47 (0, 0)) by rw [hw10, hx8]; exact hb (new_block _) (heap_alloc_new _ _))
    have K9 := Lib.hid (show w10.heap[x8 + 1]? = some (.cells #[.slice ca cn cc, .slice da dn dc] 47 (0, 0)) by rw [hw10, ← zq]; exact heap_alloc_new _ _)
    replace X4 := Lib.hid (hb b10.out X4.out)
    replace N1a := Lib.hid (N1a.out.below b10.out)
    replace NA := Lib.hid (NA.out.below b10.out)
    replace NB := Lib.hid (NB.out.below b10.out)
    replace NC := Lib.hid (NC.out.below b10.out)
    replace ND := Lib.hid (ND.out.below b10.out)
    have BW := Lib.hid (Buf.then_ B9.out b10.out)
    replace hw10 := Lib.hid hw10
    replace hx8 := Lib.hid hx8
    clear zq b10 B9
    obtain ⟨kk, hkk⟩ : ∃ kk, kk = 1 + a1 := ⟨_, rfl⟩
    have k1 : 0 < kk := by omega
    have k9 : kk ≤ 65536 := by omega
    have HK := Lib.hid (show 1 + a1 = kk from hkk.symm)
    clear hkk
    go_wp2_with fail
    rw [← hx8.out, ← hw10.out, HK.out]
    clear hw10
    with_reducible refine (from_num kk _ (by omega) (by omega)).mono ?_
    rintro e w11 ⟨⟨vn, rfl, NN⟩, hb_⟩
    obtain ⟨na, nn, nc, _, rfl, _⟩ := id NN
    replace X4 := Lib.hid (hb hb_ X4.out)
    replace N1a := Lib.hid (N1a.out.below hb_)
    replace NA := Lib.hid (NA.out.below hb_)
    replace NB := Lib.hid (NB.out.below hb_)
    replace NC := Lib.hid (NC.out.below hb_)
    replace ND := Lib.hid (ND.out.below hb_)
    replace K8 := Lib.hid (hb hb_ K8.out)
    replace K9 := Lib.hid (hb hb_ K9.out)
    replace BW := Lib.hid (Buf.then_ BW.out hb_)
    clear hb_
    replace NN := Lib.hid NN
    obtain ⟨k0, k1_⟩ := c2 K8.out
    go_wp2_with fail
    with_reducible refine (times_num NA.out NB.out NN.out NN.out Qa0 k1 (by omega) (by omega) (by omega) (by omega)).mono ?_
    rintro e w12 ⟨⟨vp, vq, rfl, NP, NQ⟩, hb_⟩
    obtain ⟨ga, gn, gc, _, rfl, _⟩ := id NP
    obtain ⟨ha, hn, hc, _, rfl, _⟩ := id NQ
    clear k0 k1_
    replace X4 := Lib.hid (hb hb_ X4.out)
    replace N1a := Lib.hid (N1a.out.below hb_)
    replace NA := Lib.hid (NA.out.below hb_)
    replace NB := Lib.hid (NB.out.below hb_)
    replace NC := Lib.hid (NC.out.below hb_)
    replace ND := Lib.hid (ND.out.below hb_)
    replace K8 := Lib.hid (hb hb_ K8.out)
    replace K9 := Lib.hid (hb hb_ K9.out)
    replace NN := Lib.hid (NN.out.below hb_)
    replace BW := Lib.hid (Buf.then_ BW.out hb_)
    clear hb_
    replace NP := Lib.hid NP
    replace NQ := Lib.hid NQ
    have b13 := Lib.hid (new_block (w := w12) (.cells #[.slice ga gn gc, .slice ha hn hc] 47))
    have K12 := Lib.hid (heap_alloc_new w12 (.cells #[.slice ga gn gc, .slice ha hn hc] 47))
    have hb_ := True.intro
    replace X4 := Lib.hid (hb b13.out X4.out)
    replace N1a := Lib.hid (N1a.out.below b13.out)
    replace NA := Lib.hid (NA.out.below b13.out)
    replace NB := Lib.hid (NB.out.below b13.out)
    replace NC := Lib.hid (NC.out.below b13.out)
    replace ND := Lib.hid (ND.out.below b13.out)
    replace K8 := Lib.hid (hb b13.out K8.out)
    replace K9 := Lib.hid (hb b13.out K9.out)
    replace NN := Lib.hid (NN.out.below b13.out)
    replace NP := Lib.hid (NP.out.below b13.out)
    replace NQ := Lib.hid (NQ.out.below b13.out)
    replace BW := Lib.hid (Buf.then_ BW.out b13.out)
    clear hb_
    obtain ⟨k0, k1_⟩ := c2 K8.out
    obtain ⟨l0, l1_⟩ := c2 K12.out
    go_wp2_with fail
    obtain ⟨w13, hw13⟩ : ∃ w13, w13 = (w12.alloc (.cells #[.slice ga gn gc, .slice ha hn hc] 47)) := ⟨_, rfl⟩
    obtain ⟨x12, hx12⟩ : ∃ x, x = w12.heap.size := ⟨_, rfl⟩
    clear k0 k1_ l0 l1_
    rw [← hw13, ← hx12] at K12 ⊢
    rw [← hw13] at X4
    rw [← hw13] at N1a
    rw [← hw13] at NA
    rw [← hw13] at NB
    rw [← hw13] at NC
    rw [← hw13] at ND
    rw [← hw13] at K8
    rw [← hw13] at K9
    rw [← hw13] at NN
    rw [← hw13] at NP
    rw [← hw13] at NQ
    rw [← hw13] at BW
    clear hw13 hx12 b13
    have Qn0 : 0 < Qa * kk := Int.mul_pos Qa0 k1
    have e1 : decide (pa * (Qa * kk) = pa * kk * Qa) = true := by simp; grind
    obtain ⟨A, hA⟩ : ∃ A, A = pa * Qb := ⟨_, rfl⟩
    obtain ⟨B, hB⟩ : ∃ B, B = pb * Qa := ⟨_, rfl⟩
    have e2 : decide (pa * kk * Qb < pb * (Qa * kk)) = decide (A < B) := by rw [← dec_scale A B kk k1, hA, hB]; congr 1; grind
    with_reducible refine (equal_num NA.out NB.out NP.out NQ.out Qa0 Qn0 (by omega) (by omega) (by omega) (by omega)).mono ?_
    rintro e w14 ⟨rfl, hb_⟩
    replace X4 := Lib.hid (hb hb_ X4.out)
    replace N1a := Lib.hid (N1a.out.below hb_)
    replace NA := Lib.hid (NA.out.below hb_)
    replace NB := Lib.hid (NB.out.below hb_)
    replace NC := Lib.hid (NC.out.below hb_)
    replace ND := Lib.hid (ND.out.below hb_)
    replace K8 := Lib.hid (hb hb_ K8.out)
    replace K9 := Lib.hid (hb hb_ K9.out)
    replace NN := Lib.hid (NN.out.below hb_)
    replace NP := Lib.hid (NP.out.below hb_)
    replace NQ := Lib.hid (NQ.out.below hb_)
    replace K12 := Lib.hid (hb hb_ K12.out)
    replace BW := Lib.hid (Buf.then_ BW.out hb_)
    clear hb_
    rw [e1]
    obtain ⟨k0, k1_⟩ := c2 K8.out
    obtain ⟨l0, l1_⟩ := c2 K9.out
    go_wp2_with fail
    clear k0 k1_ l0 l1_
    with_reducible refine (less_num NA.out NB.out NC.out ND.out Qa0 Qb0 (by omega) (by omega) (by omega) (by omega)).mono ?_
    rintro e w15 ⟨rfl, hb_⟩
    replace X4 := Lib.hid (hb hb_ X4.out)
    replace N1a := Lib.hid (N1a.out.below hb_)
    replace NA := Lib.hid (NA.out.below hb_)
    replace NB := Lib.hid (NB.out.below hb_)
    replace NC := Lib.hid (NC.out.below hb_)
    replace ND := Lib.hid (ND.out.below hb_)
    replace K8 := Lib.hid (hb hb_ K8.out)
    replace K9 := Lib.hid (hb hb_ K9.out)
    replace NN := Lib.hid (NN.out.below hb_)
    replace NP := Lib.hid (NP.out.below hb_)
    replace NQ := Lib.hid (NQ.out.below hb_)
    replace K12 := Lib.hid (hb hb_ K12.out)
    replace BW := Lib.hid (Buf.then_ BW.out hb_)
    clear hb_
    rw [← hA, ← hB]
    obtain ⟨k0, k1_⟩ := c2 K12.out
    obtain ⟨l0, l1_⟩ := c2 K9.out
    go_wp2_with fail
    clear k0 k1_ l0 l1_
    with_reducible refine (less_num NP.out NQ.out NC.out ND.out Qn0 Qb0 (by omega) (by omega) (by omega) (by omega)).mono ?_
    rintro e w16 ⟨rfl, hb_⟩
    replace X4 := Lib.hid (hb hb_ X4.out)
    replace N1a := Lib.hid (N1a.out.below hb_)
    replace NA := Lib.hid (NA.out.below hb_)
    replace NB := Lib.hid (NB.out.below hb_)
    replace NC := Lib.hid (NC.out.below hb_)
    replace ND := Lib.hid (ND.out.below hb_)
    replace K8 := Lib.hid (hb hb_ K8.out)
    replace K9 := Lib.hid (hb hb_ K9.out)
    replace NN := Lib.hid (NN.out.below hb_)
    replace NP := Lib.hid (NP.out.below hb_)
    replace NQ := Lib.hid (NQ.out.below hb_)
    replace K12 := Lib.hid (hb hb_ K12.out)
    replace BW := Lib.hid (Buf.then_ BW.out hb_)
    clear hb_
    rw [e2]
    obtain ⟨k0, k1_⟩ := c2 K9.out
    obtain ⟨l0, l1_⟩ := c2 K8.out
    go_wp2_with fail
    clear k0 k1_ l0 l1_
    with_reducible refine (less_num NC.out ND.out NA.out NB.out Qb0 Qa0 (by omega) (by omega) (by omega) (by omega)).mono ?_
    rintro e w17 ⟨rfl, hb_⟩
    replace X4 := Lib.hid (hb hb_ X4.out)
    replace N1a := Lib.hid (N1a.out.below hb_)
    replace NA := Lib.hid (NA.out.below hb_)
    replace NB := Lib.hid (NB.out.below hb_)
    replace NC := Lib.hid (NC.out.below hb_)
    replace ND := Lib.hid (ND.out.below hb_)
    replace K8 := Lib.hid (hb hb_ K8.out)
    replace K9 := Lib.hid (hb hb_ K9.out)
    replace NN := Lib.hid (NN.out.below hb_)
    replace NP := Lib.hid (NP.out.below hb_)
    replace NQ := Lib.hid (NQ.out.below hb_)
    replace K12 := Lib.hid (hb hb_ K12.out)
    replace BW := Lib.hid (Buf.then_ BW.out hb_)
    clear hb_
    rw [← hA, ← hB]
    obtain ⟨k0, k1_⟩ := c2 K8.out
    obtain ⟨l0, l1_⟩ := c2 K9.out
    go_wp2_with fail
    clear k0 k1_ l0 l1_
    with_reducible refine (equal_num NA.out NB.out NC.out ND.out Qa0 Qb0 (by omega) (by omega) (by omega) (by omega)).mono ?_
    rintro e w18 ⟨rfl, hb_⟩
    replace X4 := Lib.hid (hb hb_ X4.out)
    replace N1a := Lib.hid (N1a.out.below hb_)
    replace NA := Lib.hid (NA.out.below hb_)
    replace NB := Lib.hid (NB.out.below hb_)
    replace NC := Lib.hid (NC.out.below hb_)
    replace ND := Lib.hid (ND.out.below hb_)
    replace K8 := Lib.hid (hb hb_ K8.out)
    replace K9 := Lib.hid (hb hb_ K9.out)
    replace NN := Lib.hid (NN.out.below hb_)
    replace NP := Lib.hid (NP.out.below hb_)
    replace NQ := Lib.hid (NQ.out.below hb_)
    replace K12 := Lib.hid (hb hb_ K12.out)
    replace BW := Lib.hid (Buf.then_ BW.out hb_)
    clear hb_
    rw [← hA, ← hB]
    go_upto_region 14 with fail
    have hw0 : Below w18.heap.size w18 w18.drew := (Below.refl _ _).drew
    refine wp_region_noPanic ?_
    refine wp_region_any (by kernel_rfl) ?_
    refine Inv.wpAny_inv2 (fun k => k == 11 || k == 12) 9 99 [96, 97, 98, 99, 100, 101, 102, 95, 103, 104, 24] (fun w' => Below w18.heap.size w18 w') (fun _ w1 w2 => Below w1.heap.size w1 w2) (fun k => ([fun v_ w_ => v_ = .agg #[.slice aa an ac, .slice ba bn bc], fun v_ w_ => v_ = .slice na nn nc, fun v_ w_ => v_ = .func (.func 20) #[] #[.pointer (some ⟨q + 1, 0, none⟩)], fun v_ w_ => v_ = .slice na nn nc, fun v_ w_ => ∃ a n c, v_ = .slice a n c ∧ Num w_ (.slice a n c) (kk + 1) (max 3 1 + 1), fun v_ w_ => ∃ a n c, v_ = .agg #[.slice na nn nc, .slice a n c] ∧ Num w_ (.slice a n c) (kk + 1) (max 3 1 + 1), fun v_ w_ => ∃ a n c a' n' c', v_ = .tuple #[.agg #[.slice a n c, .slice a' n' c'], .int .i64 0] ∧ Num w_ (.slice a n c) (pa * kk) (4 + 3) ∧ Num w_ (.slice a' n' c') (Qa * (kk + 1)) (max 4 1 + 1 + (max 3 1 + 1)), fun v_ w_ => ∃ a n c a' n' c', v_ = .tuple #[.agg #[.slice a n c, .slice a' n' c'], .int .i64 0] ∧ Num w_ (.slice a n c) (pa * kk) (4 + 3) ∧ Num w_ (.slice a' n' c') (Qa * (kk + 1)) (max 4 1 + 1 + (max 3 1 + 1)), fun v_ w_ => ∃ a n c a' n' c', v_ = .agg #[.slice a n c, .slice a' n' c'] ∧ Num w_ (.slice a n c) (pa * kk) (4 + 3) ∧ Num w_ (.slice a' n' c') (Qa * (kk + 1)) (max 4 1 + 1 + (max 3 1 + 1)), fun v_ w_ => v_ = .int .i64 0, fun v_ w_ => ∃ p, v_ = .pointer (some ⟨p, 0, none⟩) ∧ w_.heap[p]? = some (.cells #[.slice none 0 0, .slice none 0 0] 47 (0, 0)) ∧ w18.heap.size ≤ p, fun v_ w_ => True, fun v_ w_ => True] : List (Value → World → Prop)).getD k (fun _ _ => True)) _ (fun σ => by simp only [Inv.putAll, List.foldl_cons, List.foldl_nil, Act.put, List.setIfInBounds_toArray, List.set_cons_zero, List.set_cons_succ]; rfl) (by kernel_rfl) (by kernel_rfl) (by decide) ?_ hw0 ?_ ?_ (fun b1 b2 => cond b1 2 3) (fun b1 b2 => #[true, true, true, true, true, true, true, true, true, b1, true, false, false]) (by intro b1 b2; cases b1 <;> cases b2 <;> kernel_rfl) (by intro b1 b2; cases b1 <;> cases b2 <;> kernel_rfl) (by exact ⟨rfl, rfl⟩) ?_
    · intro j k v w1 w2 hjk hv hr
      rcases k with _ | k
      · exact hv
      rcases k with _ | k
      · exact hv
      rcases k with _ | k
      · exact hv
      rcases k with _ | k
      · exact hv
      rcases k with _ | k
      · exact by obtain ⟨a, n, c, e, h⟩ := hv; exact ⟨a, n, c, e, h.below hr⟩
      rcases k with _ | k
      · exact by obtain ⟨a, n, c, e, h⟩ := hv; exact ⟨a, n, c, e, h.below hr⟩
      rcases k with _ | k
      · exact by obtain ⟨a, n, c, a', n', c', e, h, h'⟩ := hv; exact ⟨a, n, c, a', n', c', e, h.below hr, h'.below hr⟩
      rcases k with _ | k
      · exact by obtain ⟨a, n, c, a', n', c', e, h, h'⟩ := hv; exact ⟨a, n, c, a', n', c', e, h.below hr, h'.below hr⟩
      rcases k with _ | k
      · exact by obtain ⟨a, n, c, a', n', c', e, h, h'⟩ := hv; exact ⟨a, n, c, a', n', c', e, h.below hr, h'.below hr⟩
      rcases k with _ | k
      · exact hv
      rcases k with _ | k
      · exact by obtain ⟨p, e, h, h0⟩ := hv; exact ⟨p, e, hb hr h, h0⟩
      rcases k with _ | k
      · exact hv
      rcases k with _ | k
      · exact hv
      · exact hv
    · intro k t hl hd
      rcases k with _ | k
      · exact absurd hl (by decide +kernel)
      rcases k with _ | k
      · exact absurd hl (by decide +kernel)
      rcases k with _ | k
      · exact absurd hl (by decide +kernel)
      rcases k with _ | k
      · exact absurd hl (by decide +kernel)
      rcases k with _ | k
      · exact absurd hl (by decide +kernel)
      rcases k with _ | k
      · exact absurd hl (by decide +kernel)
      rcases k with _ | k
      · exact absurd hl (by decide +kernel)
      rcases k with _ | k
      · exact absurd hl (by decide +kernel)
      rcases k with _ | k
      · exact absurd hl (by decide +kernel)
      rcases k with _ | k
      · exact absurd hl (by decide +kernel)
      rcases k with _ | k
      · exact absurd hl (by decide +kernel)
      rcases k with _ | k
      · exact absurd hl (by decide +kernel)
      rcases k with _ | k
      · exact absurd hl (by decide +kernel)
      · simp at hd
    · show Inv.Steps _ _ _ _ _ _ _ _ [0, 1, 2, 3, 4, 5, 6, 7, 8, 9, 10]
      refine Inv.Steps.go (by decide) (by rfl) (fun σ wx hw hd K hK => ?_) ?_
      · simp only [List.getElem_toArray, List.getElem_cons_zero, List.getElem_cons_succ, Act.put, List.setIfInBounds_toArray, List.set_cons_zero, List.set_cons_succ] at hK ⊢
        obtain ⟨k0, k1_⟩ := c2 (hb hw K8.out)
        go_simp
        exact hK.out _ _ hw (Below.refl _ _) (rfl)
      refine Inv.Steps.go (by decide) (by rfl) (fun σ wx hw hd K hK => ?_) ?_
      · simp only [List.getElem_toArray, List.getElem_cons_zero, List.getElem_cons_succ, Act.put, List.setIfInBounds_toArray, List.set_cons_zero, List.set_cons_succ] at hK ⊢
        go_simp
        exact hK.out _ _ hw (Below.refl _ _) (rfl)
      refine Inv.Steps.go (by decide) (by rfl) (fun σ wx hw hd K hK => ?_) ?_
      · simp only [List.getElem_toArray, List.getElem_cons_zero, List.getElem_cons_succ, Act.put, List.setIfInBounds_toArray, List.set_cons_zero, List.set_cons_succ] at hK ⊢
        go_simp
        exact hK.out _ _ hw (Below.refl _ _) (rfl)
      refine Inv.Steps.go (by decide) (by rfl) (fun σ wx hw hd K hK => ?_) ?_
      · simp only [List.getElem_toArray, List.getElem_cons_zero, List.getElem_cons_succ, Act.put, List.setIfInBounds_toArray, List.set_cons_zero, List.set_cons_succ] at hK ⊢
        go_simp
        exact hK.out _ _ hw (Below.refl _ _) (rfl)
      refine Inv.Steps.go (by decide) (by rfl) (fun σ wx hw hd K hK => ?_) ?_
      · obtain e98 : (σ 98) = .func (.func 20) #[] #[.pointer (some ⟨q + 1, 0, none⟩)] := hd 2 (some 98) (by kernel_rfl) (by rfl)
        obtain e99 : (σ 99) = .slice na nn nc := hd 3 (some 99) (by kernel_rfl) (by rfl)
        simp only [List.getElem_toArray, List.getElem_cons_zero, List.getElem_cons_succ, Act.put, List.setIfInBounds_toArray, List.set_cons_zero, List.set_cons_succ, e98, e99] at hK ⊢
        go_simp
        go_at_call 20
        refine (clOne (NN.out.below hw) (N1a.out.below hw) (by omega) (hb hw X4.out)).mono ?_
        rintro e w1 ⟨⟨r, rfl, hN⟩, hb_⟩
        dsimp only
        obtain ⟨ra, rn, rc, _, rfl, _⟩ := id hN
        exact hK.out _ _ (hw.trans (hb_.mono hw.size)) hb_ (⟨_, _, _, rfl, hN⟩)
      refine Inv.Steps.go (by decide) (by rfl) (fun σ wx hw hd K hK => ?_) ?_
      · obtain e97 : (σ 97) = .slice na nn nc := hd 1 (some 97) (by kernel_rfl) (by rfl)
        obtain ⟨ra, rn, rc, e100, N100⟩ : ∃ a n c, (σ 100) = .slice a n c ∧ Num wx (.slice a n c) (kk + 1) (max 3 1 + 1) := hd 4 (some 100) (by kernel_rfl) (by rfl)
        simp only [List.getElem_toArray, List.getElem_cons_zero, List.getElem_cons_succ, Act.put, List.setIfInBounds_toArray, List.set_cons_zero, List.set_cons_succ, e97, e100] at hK ⊢
        go_simp
        exact hK.out _ _ hw (Below.refl _ _) (⟨_, _, _, rfl, N100⟩)
      refine Inv.Steps.go (by decide) (by rfl) (fun σ wx hw hd K hK => ?_) ?_
      · obtain e96 : (σ 96) = .agg #[.slice aa an ac, .slice ba bn bc] := hd 0 (some 96) (by kernel_rfl) (by rfl)
        obtain ⟨sa, sn, sc, e101, N101⟩ : ∃ a n c, (σ 101) = .agg #[.slice na nn nc, .slice a n c] ∧ Num wx (.slice a n c) (kk + 1) (max 3 1 + 1) := hd 5 (some 101) (by kernel_rfl) (by rfl)
        simp only [List.getElem_toArray, List.getElem_cons_zero, List.getElem_cons_succ, Act.put, List.setIfInBounds_toArray, List.set_cons_zero, List.set_cons_succ, e96, e101] at hK ⊢
        go_simp
        go_at_call 21
        refine (times_num (NA.out.below hw) (NB.out.below hw) (NN.out.below hw) N101 Qa0 (by omega) (by omega) (by omega) (by omega) (by omega)).mono ?_
        rintro e w1 ⟨⟨r, s, rfl, hN, hM⟩, hb_⟩
        dsimp only
        obtain ⟨ra, rn, rc, _, rfl, _⟩ := id hN
        obtain ⟨ta, tn, tc, _, rfl, _⟩ := id hM
        exact hK.out _ _ (hw.trans (hb_.mono hw.size)) hb_ (⟨_, _, _, _, _, _, rfl, hN, hM⟩)
      refine Inv.Steps.go (by decide) (by rfl) (fun σ wx hw hd K hK => ?_) ?_
      · obtain ⟨ta, tn, tc, ua, un, uc, e102, N102, M102⟩ : ∃ a n c a' n' c', (σ 102) = .tuple #[.agg #[.slice a n c, .slice a' n' c'], .int .i64 0] ∧ Num wx (.slice a n c) (pa * kk) (4 + 3) ∧ Num wx (.slice a' n' c') (Qa * (kk + 1)) (max 4 1 + 1 + (max 3 1 + 1)) := hd 6 (some 102) (by kernel_rfl) (by rfl)
        simp only [List.getElem_toArray, List.getElem_cons_zero, List.getElem_cons_succ, Act.put, List.setIfInBounds_toArray, List.set_cons_zero, List.set_cons_succ, e102] at hK ⊢
        go_simp
        exact hK.out _ _ hw (Below.refl _ _) (⟨_, _, _, _, _, _, rfl, N102, M102⟩)
      refine Inv.Steps.go (by decide) (by rfl) (fun σ wx hw hd K hK => ?_) ?_
      · obtain ⟨ta, tn, tc, ua, un, uc, e95, N95, M95⟩ : ∃ a n c a' n' c', (σ 95) = .tuple #[.agg #[.slice a n c, .slice a' n' c'], .int .i64 0] ∧ Num wx (.slice a n c) (pa * kk) (4 + 3) ∧ Num wx (.slice a' n' c') (Qa * (kk + 1)) (max 4 1 + 1 + (max 3 1 + 1)) := hd 7 (some 95) (by kernel_rfl) (by rfl)
        simp only [List.getElem_toArray, List.getElem_cons_zero, List.getElem_cons_succ, Act.put, List.setIfInBounds_toArray, List.set_cons_zero, List.set_cons_succ, e95] at hK ⊢
        go_simp
        exact hK.out _ _ hw (Below.refl _ _) (⟨_, _, _, _, _, _, rfl, N95, M95⟩)
      refine Inv.Steps.go (by decide) (by rfl) (fun σ wx hw hd K hK => ?_) ?_
      · obtain ⟨ta, tn, tc, ua, un, uc, e95, N95, M95⟩ : ∃ a n c a' n' c', (σ 95) = .tuple #[.agg #[.slice a n c, .slice a' n' c'], .int .i64 0] ∧ Num wx (.slice a n c) (pa * kk) (4 + 3) ∧ Num wx (.slice a' n' c') (Qa * (kk + 1)) (max 4 1 + 1 + (max 3 1 + 1)) := hd 7 (some 95) (by kernel_rfl) (by rfl)
        simp only [List.getElem_toArray, List.getElem_cons_zero, List.getElem_cons_succ, Act.put, List.setIfInBounds_toArray, List.set_cons_zero, List.set_cons_succ, e95] at hK ⊢
        go_simp
        exact hK.out _ _ hw (Below.refl _ _) (rfl)
      refine Inv.Steps.go (by decide) (by rfl) (fun σ wx hw hd K hK => ?_) ?_
      · simp only [List.getElem_toArray, List.getElem_cons_zero, List.getElem_cons_succ, Act.put, List.setIfInBounds_toArray, List.set_cons_zero, List.set_cons_succ] at hK ⊢
        go_simp
        exact hK.out _ _ (hw.trans ((new_block _).mono hw.size)) (new_block _) (⟨_, rfl, heap_alloc_new _ _, hw.size⟩)
      exact Inv.Steps.nil
    · intro b1 b2 σ wx hw hd
      cases b1
      · obtain ⟨ta, tn, tc, ua, un, uc, e103, N103, M103⟩ : ∃ a n c a' n' c', (σ 103) = .agg #[.slice a n c, .slice a' n' c'] ∧ Num wx (.slice a n c) (pa * kk) (4 + 3) ∧ Num wx (.slice a' n' c') (Qa * (kk + 1)) (max 4 1 + 1 + (max 3 1 + 1)) := hd 8 (some 103) (by kernel_rfl) (by decide) (fun h => absurd h (by decide)) (by rfl)
        obtain ⟨p, e24, P24, p0⟩ : ∃ p, (σ 24) = .pointer (some ⟨p, 0, none⟩) ∧ wx.heap[p]? = some (.cells #[.slice none 0 0, .slice none 0 0] 47 (0, 0)) ∧ w18.heap.size ≤ p := hd 10 (some 24) (by kernel_rfl) (by decide) (fun h => absurd h (by decide)) (by rfl)
        have H7 : ∃ a n c a' n' c', (σ 95) = .tuple #[.agg #[.slice a n c, .slice a' n' c'], .int .i64 0] ∧ Num wx (.slice a n c) (pa * kk) (4 + 3) ∧ Num wx (.slice a' n' c') (Qa * (kk + 1)) (max 4 1 + 1 + (max 3 1 + 1)) := hd 7 (some 95) (by kernel_rfl) (by decide) (fun h => absurd h (by decide)) (by rfl)
        obtain ⟨ta2, tn2, tc2, ua2, un2, uc2, e95, N95, M95⟩ := H7
        simp only [e103, e24, e95]
        refine Inv.take (i := 9) (v := .int .i64 0) (by decide) rfl (by kernel_rfl) (by kernel_rfl) (by kernel_rfl) (fun _ _ _ h => h) (by rfl) (fun w' => ?_) ?_
        · simp only [List.getElem_toArray, List.getElem_cons_zero, List.getElem_cons_succ]
          go_simp
        try simp only [Act.put, List.setIfInBounds_toArray, List.set_cons_zero, List.set_cons_succ]
        obtain ⟨k0, k1_⟩ := c2 P24
        have f0 := frozen_of_row wx p 0 _ _ P24
        have f1 := frozen_of_row wx p 1 _ _ P24
        refine Inv.one (i := 11) (by decide) (by kernel_rfl) (by rfl) (fun K hK => ?_)
        simp only [List.getElem_toArray, List.getElem_cons_zero, List.getElem_cons_succ, Act.put, List.setIfInBounds_toArray, List.set_cons_zero, List.set_cons_succ] at hK ⊢
        go_simp
        refine hK.out _ _ ?_
        clear hK K
        refine Inv.take (i := 12) (v := .int .i64 0) (by decide) rfl (by kernel_rfl) (by kernel_rfl) (by kernel_rfl) (fun _ _ _ h => h) (by rfl) (fun w' => ?_) ?_
        · simp only [List.getElem_toArray, List.getElem_cons_zero, List.getElem_cons_succ]
          go_simp
        try simp only [Act.put, List.setIfInBounds_toArray, List.set_cons_zero, List.set_cons_succ]
        refine Inv.done (by kernel_rfl) (NoPanic.normal ?_)
        have Z := Lib.hid (cells_set0 wx p _ _ (.slice ta tn tc) (.slice ua un uc) _ P24)
        have BZ := Lib.hid ((hw.setCell (p := ⟨p, 0, none⟩) p0 (.slice ta tn tc)).setCell (p := ⟨p, 1, none⟩) p0 (.slice ua un uc))
        have NT := Lib.hid ((N103.set_row P24 (o := 0) (.slice ta tn tc)).set_row ((heap_setCell_same wx p 0 _ _ _ P24).trans rfl) (o := 1) (.slice ua un uc))
        have NU := Lib.hid ((M103.set_row P24 (o := 0) (.slice ta tn tc)).set_row ((heap_setCell_same wx p 0 _ _ _ P24).trans rfl) (o := 1) (.slice ua un uc))
        clear k0 k1_ f0 f1 P24 N103 M103 hd hw e103 e24
        generalize (wx.setCell ⟨p, 0, none⟩ (.slice ta tn tc)).setCell ⟨p, 1, none⟩ (.slice ua un uc) = w19 at *
        replace NA := Lib.hid (NA.out.below BZ.out)
        replace NB := Lib.hid (NB.out.below BZ.out)
        have K8a := Lib.hid (hb BZ.out K8.out)
        replace BW := Lib.hid (Buf.then_ BW.out BZ.out)
        obtain ⟨k0, k1_⟩ := c2 K8a.out
        obtain ⟨l0, l1_⟩ := c2 Z.out
        have Qn1 : 0 < Qa * (kk + 1) := Int.mul_pos Qa0 (by omega)
        have e5 := dec_pos pa Qa kk pa0 Qa0
        have LE := Lib.hid (less_num NT.out NU.out NA.out NB.out Qn1 Qa0 (by omega) (by omega) (by omega) (by omega))
        rw [e5] at LE
        clear NT NU NA NB NC ND NN NP NQ N1a X4 K12 K9 e1 e2 e5 Qn0 Qn1
        go_wp2_with fail
        with_reducible refine LE.out.mono ?_
        rintro e w20 ⟨rfl, hb_⟩
        clear k0 k1_ l0 l1_ LE
        replace BW := Lib.hid (Buf.then_ BW.out hb_)
        have K8b := Lib.hid (hb hb_ K8a.out)
        clear hb_ K8a Z BZ
        obtain ⟨k0, k1_⟩ := c2 K8b.out
        have hpa : (decide (0 < pa) = true ∧ (0 : Int) < an) ∨ (decide (0 < pa) = false ∧ ¬ (0 : Int) < an) := by
          by_cases h : 0 < pa
          · exact .inl ⟨decide_eq_true h, hlen.out.2 h⟩
          · exact .inr ⟨decide_eq_false h, fun h2 => h (hlen.out.1 h2)⟩
        have hAB : (decide (pa * Qb < pb * Qa) = true ∧ decide (pb * Qa < pa * Qb) = false ∧ decide (pa * Qb = pb * Qa) = false) ∨ (decide (pa * Qb < pb * Qa) = false ∧ decide (pb * Qa < pa * Qb) = false ∧ decide (pa * Qb = pb * Qa) = true) ∨ (decide (pa * Qb < pb * Qa) = false ∧ decide (pb * Qa < pa * Qb) = true ∧ decide (pa * Qb = pb * Qa) = false) := by
          rw [← hA, ← hB]
          rcases Int.lt_trichotomy A B with h | h | h
          · exact .inl ⟨decide_eq_true h, decide_eq_false (by omega), decide_eq_false (by omega)⟩
          · exact .inr (.inl ⟨decide_eq_false (by omega), decide_eq_false (by omega), decide_eq_true h⟩)
          · exact .inr (.inr ⟨decide_eq_false (by omega), decide_eq_true h, decide_eq_false (by omega)⟩)
        have SN := Lib.hid (Sn.out _ BW.out)
        clear hA hB hlen Sn
        rcases hpa with ⟨p1, p2⟩ | ⟨p1, p2⟩
        all_goals
          rcases hAB with ⟨d1, d2, d3⟩ | ⟨d1, d2, d3⟩ | ⟨d1, d2, d3⟩
          all_goals
            go_wp2_with fail
            with_reducible refine SN.out.mono ?_
            rintro e w21 ⟨rfl, hb_⟩
            go_wp2_with fail
            go_ret
            exact ⟨rfl, Buf.then_ BW.out hb_⟩
      · obtain ⟨ta, tn, tc, ua, un, uc, e103, N103, M103⟩ : ∃ a n c a' n' c', (σ 103) = .agg #[.slice a n c, .slice a' n' c'] ∧ Num wx (.slice a n c) (pa * kk) (4 + 3) ∧ Num wx (.slice a' n' c') (Qa * (kk + 1)) (max 4 1 + 1 + (max 3 1 + 1)) := hd 8 (some 103) (by kernel_rfl) (by decide) (fun h => absurd h (by decide)) (by rfl)
        obtain ⟨p, e24, P24, p0⟩ : ∃ p, (σ 24) = .pointer (some ⟨p, 0, none⟩) ∧ wx.heap[p]? = some (.cells #[.slice none 0 0, .slice none 0 0] 47 (0, 0)) ∧ w18.heap.size ≤ p := hd 10 (some 24) (by kernel_rfl) (by decide) (fun h => absurd h (by decide)) (by rfl)
        obtain e104 : (σ 104) = .int .i64 0 := hd 9 (some 104) (by kernel_rfl) (by decide) (fun h => absurd h (by decide)) (by rfl)
        simp only [e103, e24, e104]
        obtain ⟨k0, k1_⟩ := c2 P24
        have f0 := frozen_of_row wx p 0 _ _ P24
        have f1 := frozen_of_row wx p 1 _ _ P24
        refine Inv.one (i := 11) (by decide) (by kernel_rfl) (by rfl) (fun K hK => ?_)
        simp only [List.getElem_toArray, List.getElem_cons_zero, List.getElem_cons_succ, Act.put, List.setIfInBounds_toArray, List.set_cons_zero, List.set_cons_succ] at hK ⊢
        go_simp
        refine hK.out _ _ ?_
        clear hK K
        refine Inv.take (i := 12) (v := .int .i64 0) (by decide) rfl (by kernel_rfl) (by kernel_rfl) (by kernel_rfl) (fun _ _ _ h => h) (by rfl) (fun w' => ?_) ?_
        · simp only [List.getElem_toArray, List.getElem_cons_zero, List.getElem_cons_succ]
          go_simp
        try simp only [Act.put, List.setIfInBounds_toArray, List.set_cons_zero, List.set_cons_succ]
        refine Inv.done (by kernel_rfl) (NoPanic.normal ?_)
        have Z := Lib.hid (cells_set0 wx p _ _ (.slice ta tn tc) (.slice ua un uc) _ P24)
        have BZ := Lib.hid ((hw.setCell (p := ⟨p, 0, none⟩) p0 (.slice ta tn tc)).setCell (p := ⟨p, 1, none⟩) p0 (.slice ua un uc))
        have NT := Lib.hid ((N103.set_row P24 (o := 0) (.slice ta tn tc)).set_row ((heap_setCell_same wx p 0 _ _ _ P24).trans rfl) (o := 1) (.slice ua un uc))
        have NU := Lib.hid ((M103.set_row P24 (o := 0) (.slice ta tn tc)).set_row ((heap_setCell_same wx p 0 _ _ _ P24).trans rfl) (o := 1) (.slice ua un uc))
        clear k0 k1_ f0 f1 P24 N103 M103 hd hw e103 e24
        generalize (wx.setCell ⟨p, 0, none⟩ (.slice ta tn tc)).setCell ⟨p, 1, none⟩ (.slice ua un uc) = w19 at *
        replace NA := Lib.hid (NA.out.below BZ.out)
        replace NB := Lib.hid (NB.out.below BZ.out)
        have K8a := Lib.hid (hb BZ.out K8.out)
        replace BW := Lib.hid (Buf.then_ BW.out BZ.out)
        obtain ⟨k0, k1_⟩ := c2 K8a.out
        obtain ⟨l0, l1_⟩ := c2 Z.out
        have Qn1 : 0 < Qa * (kk + 1) := Int.mul_pos Qa0 (by omega)
        have e5 := dec_pos pa Qa kk pa0 Qa0
        have LE := Lib.hid (less_num NT.out NU.out NA.out NB.out Qn1 Qa0 (by omega) (by omega) (by omega) (by omega))
        rw [e5] at LE
        clear NT NU NA NB NC ND NN NP NQ N1a X4 K12 K9 e1 e2 e5 Qn0 Qn1
        go_wp2_with fail
        with_reducible refine LE.out.mono ?_
        rintro e w20 ⟨rfl, hb_⟩
        clear k0 k1_ l0 l1_ LE
        replace BW := Lib.hid (Buf.then_ BW.out hb_)
        have K8b := Lib.hid (hb hb_ K8a.out)
        clear hb_ K8a Z BZ
        obtain ⟨k0, k1_⟩ := c2 K8b.out
        have hpa : (decide (0 < pa) = true ∧ (0 : Int) < an) ∨ (decide (0 < pa) = false ∧ ¬ (0 : Int) < an) := by
          by_cases h : 0 < pa
          · exact .inl ⟨decide_eq_true h, hlen.out.2 h⟩
          · exact .inr ⟨decide_eq_false h, fun h2 => h (hlen.out.1 h2)⟩
        have hAB : (decide (pa * Qb < pb * Qa) = true ∧ decide (pb * Qa < pa * Qb) = false ∧ decide (pa * Qb = pb * Qa) = false) ∨ (decide (pa * Qb < pb * Qa) = false ∧ decide (pb * Qa < pa * Qb) = false ∧ decide (pa * Qb = pb * Qa) = true) ∨ (decide (pa * Qb < pb * Qa) = false ∧ decide (pb * Qa < pa * Qb) = true ∧ decide (pa * Qb = pb * Qa) = false) := by
          rw [← hA, ← hB]
          rcases Int.lt_trichotomy A B with h | h | h
          · exact .inl ⟨decide_eq_true h, decide_eq_false (by omega), decide_eq_false (by omega)⟩
          · exact .inr (.inl ⟨decide_eq_false (by omega), decide_eq_false (by omega), decide_eq_true h⟩)
          · exact .inr (.inr ⟨decide_eq_false (by omega), decide_eq_true h, decide_eq_false (by omega)⟩)
        have SN := Lib.hid (Sn.out _ BW.out)
        clear hA hB hlen Sn
        rcases hpa with ⟨p1, p2⟩ | ⟨p1, p2⟩
        all_goals
          rcases hAB with ⟨d1, d2, d3⟩ | ⟨d1, d2, d3⟩ | ⟨d1, d2, d3⟩
          all_goals
            go_wp2_with fail
            with_reducible refine SN.out.mono ?_
            rintro e w21 ⟨rfl, hb_⟩
            go_wp2_with fail
            go_ret
            exact ⟨rfl, Buf.then_ BW.out hb_⟩
  · have hd : decide ((len0 : Int) ≤ 500) = false := by simp; omega
    go_enter Tryd.func5, Tryd.ntmps5
    go_wp2_with (first | (go_at_call 13; refine (light_any _ _ _ _).mono ?_; rintro e w1 ⟨rfl, rfl⟩; rw [hd]) | (go_at_call 12; refine (Sn.out _ (Below.refl _ _)).mono ?_; rintro e w2 ⟨rfl, hb⟩))
    go_ret
    exact ⟨rfl, hb⟩
end Laws
end Go.Proofs.YtaaeegjinblpiaaDoor
