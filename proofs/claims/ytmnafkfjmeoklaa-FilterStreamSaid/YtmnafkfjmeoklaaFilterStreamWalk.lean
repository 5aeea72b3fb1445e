/- The walk of FilterStream. -/
import Derived.Test.YtmnafkfjmeoklaaFsG
import Derived.Deep.DeepCutAuto
set_option linter.unusedVariables false
set_option linter.unusedSimpArgs false
namespace Go.Proofs.Ytmnafkfjmeoklaa
open Go.RowKit Wi Dice
namespace Laws
open Fil
set_option maxHeartbeats 8000000 in
set_option maxRecDepth 100000 in
theorem filterStream_walk (a0 : Option Addr) (len0 cap0 : Nat) (z0 : List Int) (a1 : Int) (w : World) (w0 : Buf.IsRow .i64 w a0 len0 cap0 z0) (w1 : (Lit.int .u16 a1).wf = true) :
    Calls Try.prog 4 #[.slice a0 len0 cap0, .int .u16 a1] w fun e w' => e = .returned (.bool true) ∧ Below w.heap.size w w' := by
  obtain ⟨b0, b1⟩ := Ma.wf_u16 w1
  clear w1
  obtain ⟨i0, hi, hz0, hz1, hz2⟩ := info_parts infoI
  by_cases hs : len0 ≤ 500
  · have hd : decide ((len0 : Int) ≤ 500) = true := by simp; omega
    go_enter Try.func4, Try.ntmps4
    go_wp2_with (first | (go_at_call 6; refine (light_any _ _ _ _).mono ?_; rintro e w1 ⟨rfl, rfl⟩; rw [hd]) | (go_at_call 8; refine (roll_any a0 len0 cap0 z0 _ w0 hs).mono ?_; rintro e w2 ⟨rfl, hdi⟩))
    have lt2 := hdi.lt
    refine (filter_any hdi).mono ?_
    rintro e w3 ⟨⟨v, l, fac, s, rfl, ho, fg, -, -, -⟩, hl⟩
    have SV3 := (sf_list ho).mono (show w1.heap.size + 1 ≤ w2.heap.size by omega)
    have D3 := Lib.hid hl.di
    have n1 := fg.n1
    generalize fn l = TT at *
    generalize l.length = n at *
    have FGH := Lib.hid fg
    obtain ⟨va, vc, rfl⟩ : ∃ a c, v = .slice a n c := by obtain ⟨a, c, e, _⟩ := SV3; exact ⟨a, c, e⟩
    replace SV3 := Lib.hid SV3
    have lt3 := hl.di.lt
    clear hl ho fg hdi w0
    go_wp2_with fail
    refine (samples_any 40 (by omega) (by omega) D3.out).mono ?_
    rintro e w4 ⟨⟨xv, xl, rfl, hox, hir, hx1, hx2⟩, hl⟩
    have SX := (sf_list hox).mono (show w1.heap.size + 1 ≤ w3.heap.size by omega)
    have hX := hir
    unfold InR at hX
    replace SV3 := Lib.hid (SV3.out.grown hl.far (Nat.lt_succ_self _))
    have D4 := Lib.hid hl.di
    generalize fn xl = X at *
    generalize xl.length = L at *
    obtain ⟨xa, xc, rfl⟩ : ∃ a c, xv = .slice a L c := by obtain ⟨a, c, e, _⟩ := SX; exact ⟨a, c, e⟩
    replace SX := Lib.hid SX
    replace hX := Lib.hid hX
    have lt4 := hl.di.lt
    clear hl hox hir D3
    have W5 := new_block (w := w4) (.cells #[.slice va n vc, .int .i64 fac, .int .i64 s] 33)
    have PF := Lib.hid (heap_alloc_new w4 (.cells #[.slice va n vc, .int .i64 fac, .int .i64 s] 33))
    replace SV3 := Lib.hid (SV3.out.below W5)
    replace SX := Lib.hid (SX.out.below W5)
    replace D4 := Lib.hid (D4.out.below W5)
    have ST := Lib.hid (start_any a1 SV3.out.sv FGH.out b0 (by omega))
    have z5 : (w4.alloc (.cells #[.slice va n vc, .int .i64 fac, .int .i64 s] 33)).heap.size = w4.heap.size + 1 := by simp
    replace z5 := Lib.hid z5
    clear W5
    go_wp2_with fail
    generalize hbf : w4.heap.size = bf at *
    generalize (w4.alloc (.cells #[.slice va n vc, .int .i64 fac, .int .i64 s] 33)) = w5 at *
    refine ST.out.mono ?_
    rintro e w6 ⟨⟨sa, rfl, ho⟩, hb⟩
    have lt5 := z5.out
    have SA := Lib.hid ((sf_own ho).mono (show w1.heap.size + 1 ≤ w5.heap.size by omega))
    replace PF := Lib.hid (hop PF.out hb)
    replace SV3 := Lib.hid (SV3.out.below hb)
    replace SX := Lib.hid (SX.out.below hb)
    replace D4 := Lib.hid (D4.out.below hb)
    have lt6 := hb.size
    obtain ⟨sa, sc, rfl⟩ := own_form ho
    clear ho hb ST
    have W7 := new_block (w := w6) (.cells #[.slice sa n sc, .int .i64 fac, .int .i64 s, .slice none 0 0, .int .i64 a1] 45)
    have P8 := Lib.hid (heap_alloc_new w6 (.cells #[.slice sa n sc, .int .i64 fac, .int .i64 s, .slice none 0 0, .int .i64 a1] 45))
    replace PF := Lib.hid (hop PF.out W7)
    replace SV3 := Lib.hid (SV3.out.below W7)
    replace SX := Lib.hid (SX.out.below W7)
    replace SA := Lib.hid (SA.out.below W7)
    replace D4 := Lib.hid (D4.out.below W7)
    have PU := Lib.hid (push_first SA.out.sv SX.out.sv FGH.out b0 b1 (by omega) hx1 hX.out)
    have z7 := Lib.hid (show (w6.alloc (.cells #[.slice sa n sc, .int .i64 fac, .int .i64 s, .slice none 0 0, .int .i64 a1] 45)).heap.size = w6.heap.size + 1 by simp)
    clear W7
    go_wp2_with fail
    generalize hb8 : w6.heap.size = b8 at *
    generalize w6.alloc (.cells #[.slice sa n sc, .int .i64 fac, .int .i64 s, .slice none 0 0, .int .i64 a1] 45) = w7 at *
    refine PU.out.mono ?_
    rintro e w8 ⟨⟨v1, u1, r1, rfl, s1, s2, ho⟩, hb⟩
    have lt7 := z7.out
    have lt8 := hb.size
    have S1 := Lib.hid (s1.mono (show w1.heap.size + 1 ≤ w7.heap.size by omega))
    have S2 := Lib.hid (s2.mono (show w1.heap.size + 1 ≤ w7.heap.size by omega))
    have SL := Lib.hid ((sf_list ho).mono (show w1.heap.size + 1 ≤ w7.heap.size by omega))
    replace PF := Lib.hid (hop PF.out hb)
    replace P8 := Lib.hid (hop P8.out hb)
    replace SV3 := Lib.hid (SV3.out.below hb)
    replace SX := Lib.hid (SX.out.below hb)
    replace SA := Lib.hid (SA.out.below hb)
    replace D4 := Lib.hid (D4.out.below hb)
    obtain ⟨v1a, v1c, rfl⟩ : ∃ a c, v1 = .slice a n c := by obtain ⟨a, c, e, _⟩ := S1.out; exact ⟨a, c, e⟩
    obtain ⟨u1a, u1c, rfl⟩ : ∃ a c, u1 = .slice a (kept n L) c := by obtain ⟨a, c, e, _⟩ := S2.out; exact ⟨a, c, e⟩
    obtain ⟨r1a, r1c, rfl⟩ : ∃ a c, r1 = .slice a (outs TT X n s fac a1 L).length c := by obtain ⟨a, c, e, _⟩ := SL.out; exact ⟨a, c, e⟩
    clear ho hb PU s1 s2
    have W9 := new_block (w := w8) (.cells #[.slice v1a n v1c, .int .i64 fac, .int .i64 s, .slice u1a (kept n L) u1c, .int .i64 (a1 + L)] 45)
    have P10 := Lib.hid (heap_alloc_new w8 (.cells #[.slice v1a n v1c, .int .i64 fac, .int .i64 s, .slice u1a (kept n L) u1c, .int .i64 (a1 + L)] 45))
    replace PF := Lib.hid (hop PF.out W9)
    replace P8 := Lib.hid (hop P8.out W9)
    replace SV3 := Lib.hid (SV3.out.below W9)
    replace SX := Lib.hid (SX.out.below W9)
    replace SA := Lib.hid (SA.out.below W9)
    replace S1 := Lib.hid (S1.out.below W9)
    replace S2 := Lib.hid (S2.out.below W9)
    replace SL := Lib.hid (SL.out.below W9)
    replace D4 := Lib.hid (D4.out.below W9)
    have AP := Lib.hid (apply_any a1 SV3.out.sv SX.out.sv FGH.out (by omega) hX.out b0 (by omega))
    have z9 := Lib.hid (show (w8.alloc (.cells #[.slice v1a n v1c, .int .i64 fac, .int .i64 s, .slice u1a (kept n L) u1c, .int .i64 (a1 + L)] 45)).heap.size = w8.heap.size + 1 by simp)
    obtain ⟨c0, c1, c2⟩ := cells3 PF.out
    clear W9
    generalize hkL : kept n L = kL at *
    generalize hOL : (outs TT X n s fac a1 L).length = oL at *
    go_wp2_with fail
    generalize hb10 : w8.heap.size = b10 at *
    generalize w8.alloc (.cells #[.slice v1a n v1c, .int .i64 fac, .int .i64 s, .slice u1a kL u1c, .int .i64 (a1 + L)] 45) = w9 at *
    refine AP.out.mono ?_
    rintro e w10 ⟨⟨r2, rfl, ho⟩, hb⟩
    have lt9 := z9.out
    have lt10 := hb.size
    have S3 := (sf_list ho).mono (show w1.heap.size + 1 ≤ w9.heap.size by omega)
    rw [hOL] at S3
    replace P8 := Lib.hid (hop P8.out hb)
    replace P10 := Lib.hid (hop P10.out hb)
    replace SX := Lib.hid (SX.out.below hb)
    replace SA := Lib.hid (SA.out.below hb)
    replace S1 := Lib.hid (S1.out.below hb)
    replace S2 := Lib.hid (S2.out.below hb)
    replace SL := Lib.hid (SL.out.below hb)
    replace D4 := Lib.hid (D4.out.below hb)
    obtain ⟨r2a, r2c, rfl⟩ : ∃ a c, r2 = .slice a oL c := by obtain ⟨a, c, e, _⟩ := S3; exact ⟨a, c, e⟩
    replace S3 := Lib.hid S3
    clear ho hb AP SV3 PF c0 c1 c2 z9 z7 z5
    have k0 : kept n 0 = 0 := by simp [kept]
    have F0 : Hid (FL w1 w10 a0 len0 cap0 z0 b8 n s TT X fac a1 w10 0 (.slice none 0 0)) := Lib.hid ⟨Nat.le_refl _, fun _ _ _ _ => rfl, D4.out, ⟨sa, sc, none, 0, by rw [k0, Int.natCast_zero, Int.add_zero]; exact P8.out, SA.out, by rw [k0]; exact ⟨none, 0, rfl, Nat.le_refl _, by decide, fun h => absurd h (by omega)⟩⟩, by rw [outs_zero _ _ _ _ _ _ 0 (Nat.zero_le _)]; exact Buf.Own.nil _ _⟩
    have H8 := Lib.hid (show ∃ a k c x1 x2 x3 x4 t, w10.heap[b8]? = some (.cells #[.slice a k c, x1, x2, x3, x4] t (0, 0)) from ⟨_, _, _, _, _, _, _, _, P8.out⟩)
    have P8x := P8
    clear P8 SA k0
    have ne8 : b8 ≠ w1.heap.size := by omega
    have lt10' : w1.heap.size < w10.heap.size := by omega
    replace hOL := Lib.hid hOL
    replace hkL := Lib.hid hkL
    go_wp2_with fail
    go_loopw [15, 16] (fun r i wr => ∃ p : Nat, p ≤ L ∧ i = .int .i64 p ∧ Hid (FL w1 w10 a0 len0 cap0 z0 b8 n s TT X fac a1 wr p r)) (fun _ i _ => L - (intOf i).toNat)
    case atStart => exact ⟨0, by omega, rfl, F0⟩
    case round =>
      clear F0
      obtain ⟨p, hp, rfl, HF⟩ := hrel
      obtain ⟨ra0, rn0, rc0, rfl⟩ : ∃ a k c, u15 = .slice a k c := by obtain ⟨a, c, e⟩ := own_len HF.out.own; exact ⟨a, _, c, e⟩
      by_cases hlt : p < L
      · have hlt' : (p : Int) < L := by omega
        go_wp2_with fail
        refine (next_any 7 HF.out.di (by omega) (by omega)).mono ?_
        rintro e wS ⟨⟨k, rfl, k0, k1⟩, hl⟩
        replace HF := Lib.hid (HF.out.left lt10' ne8 hl)
        clear hl
        obtain ⟨q, hq⟩ : ∃ q : Nat, min ((p : Int) + 1 + k) (L : Int) = (q : Int) := ⟨(min ((p : Int) + 1 + k) (L : Int)).toNat, by omega⟩
        have hpq : p < q := by omega
        have hqL : q ≤ L := by omega
        obtain ⟨fa, fc, ga, gc, P8, hf1, hf2⟩ := HF.out.feed
        obtain ⟨YL, hYL⟩ : ∃ YL, YL = outs TT (fun j => X (p - kept n p + j)) n s fac (a1 + ((p - kept n p : Nat) : Int)) (q - (p - kept n p)) := ⟨_, rfl⟩
        have hcat := Lib.hid (outs_more TT X n s fac a1 p q (by omega))
        rw [← hYL] at hcat
        have SXr := Lib.hid (HF.out.old SX.out H8.out)
        have hqxc := Lib.hid (show q ≤ xc by obtain ⟨a, c, e, h1, _⟩ := SXr.out; cases e; omega)
        have hple := Lib.hid (show p ≤ q by omega)
        have PN := Lib.hid fun w' (hb : Below wS.heap.size wS w') ya yc (h : SV w' (.slice ya (q - p) yc) (q - p) (fun j => X (p + j))) => push_next ⟨(hf1.below hb).sv, (hf2.below hb).sv⟩ hpq h FGH.out b0 b1 (by omega) (fun j hj => hX.out j (by omega))
        rw [← hYL] at PN
        replace hYL := Lib.hid hYL
        obtain ⟨kp, hkp⟩ : ∃ kp, kp = kept n p := ⟨_, rfl⟩
        obtain ⟨kq, hkq⟩ : ∃ kq, kq = kept n q := ⟨_, rfl⟩
        obtain ⟨nY, hnY⟩ : ∃ nY, nY = YL.length := ⟨_, rfl⟩
        rw [← hkp] at P8
        rw [← hkp, ← hkq] at PN
        replace P8 := Lib.hid P8
        replace hkp := Lib.hid hkp
        replace hkq := Lib.hid hkq
        replace hnY := Lib.hid hnY
        clear hf1 hf2
        go_upto_region 12 with fail
        go_cut [18, 19, 20] (fun s18 s19 s20 wz => ∃ wx b fa2 fc2 ga2 gc2 ra rc, wx = wz ∧ s18 = .pointer (some ⟨b, 0, none⟩) ∧ s19 = .slice ra nY rc ∧ s20 = .int .i64 0 ∧ Hid (wS.heap.size ≤ b) ∧ Hid (wx.heap[b]? = some (.cells #[.slice fa2 n fc2, .int .i64 fac, .int .i64 s, .slice ga2 kq gc2, .int .i64 (a1 + q)] 45 (0, 0))) ∧ Hid (SVf wS.heap.size wx (.slice fa2 n fc2) n TT) ∧ Hid (SVf wS.heap.size wx (.slice ga2 kq gc2) kq (fun j => X (q - kq + j))) ∧ Hid (SVf wS.heap.size wx (.slice ra nY rc) nY (fn YL)) ∧ Hid (Below wS.heap.size wS wx))
        case first =>
          refine wp_region_noPanic ?_
          refine wp_region_any (by kernel_rfl) ?_
          have hw0 : Below wS.heap.size wS wS.drew := (Below.refl _ _).drew
          refine Inv.wpAny_inv2 (fun k => k == 11 || k == 12 || k == 13) 8 9 [70, 71, 72, 73, 74, 75, 69, 76, 77, 78, 18] (fun w' => Below wS.heap.size wS w') (fun _ w1 w2 => Below w1.heap.size w1 w2) (fun k => ([fun v_ w_ => v_ = .agg #[.slice fa n fc, .int .i64 fac, .int .i64 s, .slice ga kp gc, .int .i64 (a1 + p)], fun v_ w_ => v_ = .slice xa L xc, fun v_ w_ => v_ = .int .i64 p, fun v_ w_ => v_ = .int .i64 q, fun v_ w_ => ∃ ya yc, v_ = .slice ya (q - p) yc ∧ SV w_ (.slice ya (q - p) yc) (q - p) (fun j => X (p + j)), fun v_ w_ => RsT wS.heap.size n s kq nY fac (a1 + q) TT (fun j => X (q - kq + j)) YL v_ w_, fun v_ w_ => RsT wS.heap.size n s kq nY fac (a1 + q) TT (fun j => X (q - kq + j)) YL v_ w_, fun v_ w_ => RsA wS.heap.size n s kq fac (a1 + q) TT (fun j => X (q - kq + j)) v_ w_, fun v_ w_ => RsL wS.heap.size nY YL v_ w_, fun v_ w_ => v_ = .int .i64 0, fun v_ w_ => ∃ b, v_ = .pointer (some ⟨b, 0, none⟩) ∧ wS.heap.size ≤ b ∧ w_.heap[b]? = some (.cells #[.slice none 0 0, .int .i64 0, .int .i64 0, .slice none 0 0, .int .i64 0] 45 (0, 0)), fun v_ w_ => True, fun v_ w_ => True, fun v_ w_ => True] : List (Value → World → Prop)).getD k (fun _ _ => True)) _ (fun σ => by simp only [Inv.putAll, List.foldl_cons, List.foldl_nil, Act.put, List.setIfInBounds_toArray, List.set_cons_zero, List.set_cons_succ]; rfl) (by kernel_rfl) (by kernel_rfl) (by decide) ?_ hw0 ?_ ?_ (fun b1 b2 => cond b1 (cond b2 3 4) (cond b2 4 5)) (fun b1 b2 => #[true, true, true, true, true, true, true, true, b1, b2, true, false, false, false]) (by intro b1 b2; cases b1 <;> cases b2 <;> kernel_rfl) (by intro b1 b2; cases b1 <;> cases b2 <;> kernel_rfl) (by exact ⟨rfl, rfl⟩) ?_
          · intro j k v w1 w2 hjk hv hr
            rcases k with _ | k
            · exact hv
            rcases k with _ | k
            · exact hv
            rcases k with _ | k
            · exact hv
            rcases k with _ | k
            · exact hv
            rcases k with _ | k
            · exact (by obtain ⟨x1, x2, h1, h2⟩ := hv; exact ⟨x1, x2, h1, h2.below hr⟩)
            rcases k with _ | k
            · exact hv.below hr
            rcases k with _ | k
            · exact hv.below hr
            rcases k with _ | k
            · exact hv.below hr
            rcases k with _ | k
            · exact hv.below hr
            rcases k with _ | k
            · exact hv
            rcases k with _ | k
            · exact (by obtain ⟨b, h1, h2, h3⟩ := hv; exact ⟨b, h1, h2, hop h3 hr⟩)
            rcases k with _ | k
            · exact hv
            rcases k with _ | k
            · exact hv
            rcases k with _ | k
            · exact hv
            · exact hv
          · intro k t hl hd
            rcases k with _ | k
            · exact absurd hl (by decide +kernel)
            rcases k with _ | k
            · exact absurd hl (by decide +kernel)
            rcases k with _ | k
            · exact absurd hl (by decide +kernel)
            rcases k with _ | k
            · exact absurd hl (by decide +kernel)
            rcases k with _ | k
            · exact absurd hl (by decide +kernel)
            rcases k with _ | k
            · exact absurd hl (by decide +kernel)
            rcases k with _ | k
            · exact absurd hl (by decide +kernel)
            rcases k with _ | k
            · exact absurd hl (by decide +kernel)
            rcases k with _ | k
            · exact absurd hl (by decide +kernel)
            rcases k with _ | k
            · exact absurd hl (by decide +kernel)
            rcases k with _ | k
            · exact absurd hl (by decide +kernel)
            rcases k with _ | k
            · exact absurd hl (by decide +kernel)
            rcases k with _ | k
            · exact absurd hl (by decide +kernel)
            rcases k with _ | k
            · exact absurd hl (by decide +kernel)
            · simp at hd
          · show Inv.Steps _ _ _ _ _ _ _ _ [0, 1, 2, 3, 4, 5, 6, 7, 8, 9, 10]
            refine Inv.Steps.go (by decide) (by rfl) (fun σ wx hw hd K hK => ?_) ?_
            · simp only [List.getElem_toArray, List.getElem_cons_zero, List.getElem_cons_succ, Act.put, List.setIfInBounds_toArray, List.set_cons_zero, List.set_cons_succ] at hK ⊢
              obtain ⟨y0, y1, y2, y3, y4⟩ := cells5 (hop6 hw P8.out)
              go_simp
              exact hK.out _ _ hw (Below.refl _ _) (rfl)
            refine Inv.Steps.go (by decide) (by rfl) (fun σ wx hw hd K hK => ?_) ?_
            · simp only [List.getElem_toArray, List.getElem_cons_zero, List.getElem_cons_succ, Act.put, List.setIfInBounds_toArray, List.set_cons_zero, List.set_cons_succ] at hK ⊢
              go_simp
              exact hK.out _ _ hw (Below.refl _ _) (rfl)
            refine Inv.Steps.go (by decide) (by rfl) (fun σ wx hw hd K hK => ?_) ?_
            · simp only [List.getElem_toArray, List.getElem_cons_zero, List.getElem_cons_succ, Act.put, List.setIfInBounds_toArray, List.set_cons_zero, List.set_cons_succ] at hK ⊢
              go_simp
              exact hK.out _ _ hw (Below.refl _ _) (rfl)
            refine Inv.Steps.go (by decide) (by rfl) (fun σ wx hw hd K hK => ?_) ?_
            · simp only [List.getElem_toArray, List.getElem_cons_zero, List.getElem_cons_succ, Act.put, List.setIfInBounds_toArray, List.set_cons_zero, List.set_cons_succ] at hK ⊢
              go_simp
              exact hK.out _ _ hw (Below.refl _ _) (rfl)
            refine Inv.Steps.go (by decide) (by rfl) (fun σ wx hw hd K hK => ?_) ?_
            · obtain e71 : (σ 71) = .slice xa L xc := hd 1 (some 71) (by kernel_rfl) (by rfl)
              obtain e72 : (σ 72) = .int .i64 p := hd 2 (some 72) (by kernel_rfl) (by rfl)
              obtain e73 : (σ 73) = .int .i64 q := hd 3 (some 73) (by kernel_rfl) (by rfl)
              simp only [List.getElem_toArray, List.getElem_cons_zero, List.getElem_cons_succ, Act.put, List.setIfInBounds_toArray, List.set_cons_zero, List.set_cons_succ, e71, e72, e73] at hK ⊢
              go_simp
              simp only [if_pos hqxc.out, if_pos hple.out]
              go_simp
              exact hK.out _ _ hw (Below.refl _ _) (⟨_, _, rfl, sv_mid (SXr.out.below hw).sv p q hple.out hqL⟩)
            refine Inv.Steps.go (by decide) (by rfl) (fun σ wx hw hd K hK => ?_) ?_
            · obtain e70 : (σ 70) = .agg #[.slice fa n fc, .int .i64 fac, .int .i64 s, .slice ga kp gc, .int .i64 (a1 + p)] := hd 0 (some 70) (by kernel_rfl) (by rfl)
              obtain ⟨ya, yc, e74, s74⟩ : ∃ ya yc, (σ 74) = .slice ya (q - p) yc ∧ SV wx (.slice ya (q - p) yc) (q - p) (fun j => X (p + j)) := hd 4 (some 74) (by kernel_rfl) (by rfl)
              simp only [List.getElem_toArray, List.getElem_cons_zero, List.getElem_cons_succ, Act.put, List.setIfInBounds_toArray, List.set_cons_zero, List.set_cons_succ, e70, e74] at hK ⊢
              go_simp
              go_at_call 17
              refine (PN.out wx hw _ _ s74).mono ?_
              rintro e w1 ⟨⟨v2, u2, r2, rfl, g1, g2, g3⟩, hb⟩
              have hsz := hw.size
              dsimp only
              exact hK.out _ _ (Buf.then_ hw hb) hb (rsT_of (g1.mono hsz) (g2.mono hsz) ((sf_list g3).mono hsz) hnY.out)
            refine Inv.Steps.go (by decide) (by rfl) (fun σ wx hw hd K hK => ?_) ?_
            · obtain ⟨x75, y75, e75, t75, l75⟩ : RsT wS.heap.size n s kq nY fac (a1 + q) TT (fun j => X (q - kq + j)) YL (σ 75) wx := hd 5 (some 75) (by kernel_rfl) (by rfl)
              simp only [List.getElem_toArray, List.getElem_cons_zero, List.getElem_cons_succ, Act.put, List.setIfInBounds_toArray, List.set_cons_zero, List.set_cons_succ, e75] at hK ⊢
              go_simp
              exact hK.out _ _ hw (Below.refl _ _) (⟨_, _, rfl, t75, l75⟩)
            refine Inv.Steps.go (by decide) (by rfl) (fun σ wx hw hd K hK => ?_) ?_
            · obtain ⟨x69, y69, e69, t69, l69⟩ : RsT wS.heap.size n s kq nY fac (a1 + q) TT (fun j => X (q - kq + j)) YL (σ 69) wx := hd 6 (some 69) (by kernel_rfl) (by rfl)
              simp only [List.getElem_toArray, List.getElem_cons_zero, List.getElem_cons_succ, Act.put, List.setIfInBounds_toArray, List.set_cons_zero, List.set_cons_succ, e69] at hK ⊢
              go_simp
              exact hK.out _ _ hw (Below.refl _ _) (t69)
            refine Inv.Steps.go (by decide) (by rfl) (fun σ wx hw hd K hK => ?_) ?_
            · obtain ⟨x69, y69, e69, t69, l69⟩ : RsT wS.heap.size n s kq nY fac (a1 + q) TT (fun j => X (q - kq + j)) YL (σ 69) wx := hd 6 (some 69) (by kernel_rfl) (by rfl)
              simp only [List.getElem_toArray, List.getElem_cons_zero, List.getElem_cons_succ, Act.put, List.setIfInBounds_toArray, List.set_cons_zero, List.set_cons_succ, e69] at hK ⊢
              go_simp
              exact hK.out _ _ hw (Below.refl _ _) (l69)
            refine Inv.Steps.go (by decide) (by rfl) (fun σ wx hw hd K hK => ?_) ?_
            · obtain ⟨x69, y69, e69, t69, l69⟩ : RsT wS.heap.size n s kq nY fac (a1 + q) TT (fun j => X (q - kq + j)) YL (σ 69) wx := hd 6 (some 69) (by kernel_rfl) (by rfl)
              simp only [List.getElem_toArray, List.getElem_cons_zero, List.getElem_cons_succ, Act.put, List.setIfInBounds_toArray, List.set_cons_zero, List.set_cons_succ, e69] at hK ⊢
              go_simp
              exact hK.out _ _ hw (Below.refl _ _) (rfl)
            refine Inv.Steps.go (by decide) (by rfl) (fun σ wx hw hd K hK => ?_) ?_
            · simp only [List.getElem_toArray, List.getElem_cons_zero, List.getElem_cons_succ, Act.put, List.setIfInBounds_toArray, List.set_cons_zero, List.set_cons_succ] at hK ⊢
              have hsz := hw.size
              have hnew := heap_alloc_new wx (.cells #[.slice none 0 0, .int .i64 0, .int .i64 0, .slice none 0 0, .int .i64 0] 45)
              go_simp
              exact hK.out _ _ (hw.alloc hsz _) (new_block _) (⟨wx.heap.size, rfl, hsz, hnew⟩)
            exact Inv.Steps.nil
          · intro b1 b2 σ wx hw hd
            cases b1
            · cases b2
              · obtain ⟨x69, y69, e69, t69, l69⟩ : RsT wS.heap.size n s kq nY fac (a1 + q) TT (fun j => X (q - kq + j)) YL (σ 69) wx := hd 6 (some 69) (by kernel_rfl) (by decide) (by decide) (by rfl)
                obtain ⟨fa2, fc2, ga2, gc2, e76, q76, u76⟩ : RsA wS.heap.size n s kq fac (a1 + q) TT (fun j => X (q - kq + j)) (σ 76) wx := hd 7 (some 76) (by kernel_rfl) (by decide) (by decide) (by rfl)
                obtain ⟨b, e18, b18, h18⟩ : ∃ b, (σ 18) = .pointer (some ⟨b, 0, none⟩) ∧ wS.heap.size ≤ b ∧ wx.heap[b]? = some (.cells #[.slice none 0 0, .int .i64 0, .int .i64 0, .slice none 0 0, .int .i64 0] 45 (0, 0)) := hd 10 (some 18) (by kernel_rfl) (by decide) (by decide) (by rfl)
                obtain ⟨ra, rc, rfl, q77⟩ := l69
                simp only [e69, e76, e18]
                refine Inv.take (i := 8) (v := .slice ra nY rc) (by decide) rfl (by kernel_rfl) (by kernel_rfl) (by kernel_rfl) (fun _ _ _ h => h) (by rfl) (fun w' => ?_) ?_
                · simp only [List.getElem_toArray, List.getElem_cons_zero, List.getElem_cons_succ]
                  go_simp
                try simp only [Act.put, List.setIfInBounds_toArray, List.set_cons_zero, List.set_cons_succ]
                refine Inv.take (i := 9) (v := .int .i64 0) (by decide) rfl (by kernel_rfl) (by kernel_rfl) (by kernel_rfl) (fun _ _ _ h => h) (by rfl) (fun w' => ?_) ?_
                · simp only [List.getElem_toArray, List.getElem_cons_zero, List.getElem_cons_succ]
                  go_simp
                try simp only [Act.put, List.setIfInBounds_toArray, List.set_cons_zero, List.set_cons_succ]
                obtain ⟨z0, z1, z2, z3, z4⟩ := cells5 h18
                obtain ⟨g0, g1, g2, g3, g4⟩ := free5 h18
                refine Inv.one (i := 11) (by decide) (by kernel_rfl) (by rfl) (fun K hK => ?_)
                simp only [List.getElem_toArray, List.getElem_cons_zero, List.getElem_cons_succ, Act.put, List.setIfInBounds_toArray, List.set_cons_zero, List.set_cons_succ] at hK ⊢
                go_simp
                refine hK.out _ _ ?_
                clear hK K
                refine Inv.take (i := 12) (v := .slice ra nY rc) (by decide) rfl (by kernel_rfl) (by kernel_rfl) (by kernel_rfl) (fun _ _ _ h => h) (by rfl) (fun w' => ?_) ?_
                · simp only [List.getElem_toArray, List.getElem_cons_zero, List.getElem_cons_succ]
                  go_simp
                try simp only [Act.put, List.setIfInBounds_toArray, List.set_cons_zero, List.set_cons_succ]
                refine Inv.take (i := 13) (v := .int .i64 0) (by decide) rfl (by kernel_rfl) (by kernel_rfl) (by kernel_rfl) (fun _ _ _ h => h) (by rfl) (fun w' => ?_) ?_
                · simp only [List.getElem_toArray, List.getElem_cons_zero, List.getElem_cons_succ]
                  go_simp
                try simp only [Act.put, List.setIfInBounds_toArray, List.set_cons_zero, List.set_cons_succ]
                refine Inv.done (by kernel_rfl) (NoPanic.normal ?_)
                go_wp2_with fail
                go_meet
                exact ⟨_, b, fa2, fc2, ga2, gc2, ra, rc, rfl, rfl, rfl, rfl, Lib.hid b18, Lib.hid (set5 h18 _ _ _ _ _), Lib.hid (q76.feed h18 _ _ _ _ _), Lib.hid (u76.feed h18 _ _ _ _ _), Lib.hid (q77.feed h18 _ _ _ _ _), Lib.hid (below_set5 hw b b18 _ _ _ _ _)⟩
              · obtain ⟨x69, y69, e69, t69, l69⟩ : RsT wS.heap.size n s kq nY fac (a1 + q) TT (fun j => X (q - kq + j)) YL (σ 69) wx := hd 6 (some 69) (by kernel_rfl) (by decide) (by decide) (by rfl)
                obtain ⟨fa2, fc2, ga2, gc2, e76, q76, u76⟩ : RsA wS.heap.size n s kq fac (a1 + q) TT (fun j => X (q - kq + j)) (σ 76) wx := hd 7 (some 76) (by kernel_rfl) (by decide) (by decide) (by rfl)
                obtain ⟨b, e18, b18, h18⟩ : ∃ b, (σ 18) = .pointer (some ⟨b, 0, none⟩) ∧ wS.heap.size ≤ b ∧ wx.heap[b]? = some (.cells #[.slice none 0 0, .int .i64 0, .int .i64 0, .slice none 0 0, .int .i64 0] 45 (0, 0)) := hd 10 (some 18) (by kernel_rfl) (by decide) (by decide) (by rfl)
                obtain ⟨ra, rc, rfl, q77⟩ := l69
                obtain e78 : (σ 78) = .int .i64 0 := hd 9 (some 78) (by kernel_rfl) (by decide) (by decide) (by rfl)
                simp only [e69, e76, e18, e78]
                refine Inv.take (i := 8) (v := .slice ra nY rc) (by decide) rfl (by kernel_rfl) (by kernel_rfl) (by kernel_rfl) (fun _ _ _ h => h) (by rfl) (fun w' => ?_) ?_
                · simp only [List.getElem_toArray, List.getElem_cons_zero, List.getElem_cons_succ]
                  go_simp
                try simp only [Act.put, List.setIfInBounds_toArray, List.set_cons_zero, List.set_cons_succ]
                obtain ⟨z0, z1, z2, z3, z4⟩ := cells5 h18
                obtain ⟨g0, g1, g2, g3, g4⟩ := free5 h18
                refine Inv.one (i := 11) (by decide) (by kernel_rfl) (by rfl) (fun K hK => ?_)
                simp only [List.getElem_toArray, List.getElem_cons_zero, List.getElem_cons_succ, Act.put, List.setIfInBounds_toArray, List.set_cons_zero, List.set_cons_succ] at hK ⊢
                go_simp
                refine hK.out _ _ ?_
                clear hK K
                refine Inv.take (i := 12) (v := .slice ra nY rc) (by decide) rfl (by kernel_rfl) (by kernel_rfl) (by kernel_rfl) (fun _ _ _ h => h) (by rfl) (fun w' => ?_) ?_
                · simp only [List.getElem_toArray, List.getElem_cons_zero, List.getElem_cons_succ]
                  go_simp
                try simp only [Act.put, List.setIfInBounds_toArray, List.set_cons_zero, List.set_cons_succ]
                refine Inv.take (i := 13) (v := .int .i64 0) (by decide) rfl (by kernel_rfl) (by kernel_rfl) (by kernel_rfl) (fun _ _ _ h => h) (by rfl) (fun w' => ?_) ?_
                · simp only [List.getElem_toArray, List.getElem_cons_zero, List.getElem_cons_succ]
                  go_simp
                try simp only [Act.put, List.setIfInBounds_toArray, List.set_cons_zero, List.set_cons_succ]
                refine Inv.done (by kernel_rfl) (NoPanic.normal ?_)
                go_wp2_with fail
                go_meet
                exact ⟨_, b, fa2, fc2, ga2, gc2, ra, rc, rfl, rfl, rfl, rfl, Lib.hid b18, Lib.hid (set5 h18 _ _ _ _ _), Lib.hid (q76.feed h18 _ _ _ _ _), Lib.hid (u76.feed h18 _ _ _ _ _), Lib.hid (q77.feed h18 _ _ _ _ _), Lib.hid (below_set5 hw b b18 _ _ _ _ _)⟩
            · cases b2
              · obtain ⟨x69, y69, e69, t69, l69⟩ : RsT wS.heap.size n s kq nY fac (a1 + q) TT (fun j => X (q - kq + j)) YL (σ 69) wx := hd 6 (some 69) (by kernel_rfl) (by decide) (by decide) (by rfl)
                obtain ⟨fa2, fc2, ga2, gc2, e76, q76, u76⟩ : RsA wS.heap.size n s kq fac (a1 + q) TT (fun j => X (q - kq + j)) (σ 76) wx := hd 7 (some 76) (by kernel_rfl) (by decide) (by decide) (by rfl)
                obtain ⟨b, e18, b18, h18⟩ : ∃ b, (σ 18) = .pointer (some ⟨b, 0, none⟩) ∧ wS.heap.size ≤ b ∧ wx.heap[b]? = some (.cells #[.slice none 0 0, .int .i64 0, .int .i64 0, .slice none 0 0, .int .i64 0] 45 (0, 0)) := hd 10 (some 18) (by kernel_rfl) (by decide) (by decide) (by rfl)
                obtain ⟨ra, rc, e77, q77⟩ : RsL wS.heap.size nY YL (σ 77) wx := hd 8 (some 77) (by kernel_rfl) (by decide) (by decide) (by rfl)
                simp only [e69, e76, e18, e77]
                refine Inv.take (i := 9) (v := .int .i64 0) (by decide) rfl (by kernel_rfl) (by kernel_rfl) (by kernel_rfl) (fun _ _ _ h => h) (by rfl) (fun w' => ?_) ?_
                · simp only [List.getElem_toArray, List.getElem_cons_zero, List.getElem_cons_succ]
                  go_simp
                try simp only [Act.put, List.setIfInBounds_toArray, List.set_cons_zero, List.set_cons_succ]
                obtain ⟨z0, z1, z2, z3, z4⟩ := cells5 h18
                obtain ⟨g0, g1, g2, g3, g4⟩ := free5 h18
                refine Inv.one (i := 11) (by decide) (by kernel_rfl) (by rfl) (fun K hK => ?_)
                simp only [List.getElem_toArray, List.getElem_cons_zero, List.getElem_cons_succ, Act.put, List.setIfInBounds_toArray, List.set_cons_zero, List.set_cons_succ] at hK ⊢
                go_simp
                refine hK.out _ _ ?_
                clear hK K
                refine Inv.take (i := 12) (v := .slice ra nY rc) (by decide) rfl (by kernel_rfl) (by kernel_rfl) (by kernel_rfl) (fun _ _ _ h => h) (by rfl) (fun w' => ?_) ?_
                · simp only [List.getElem_toArray, List.getElem_cons_zero, List.getElem_cons_succ]
                  go_simp
                try simp only [Act.put, List.setIfInBounds_toArray, List.set_cons_zero, List.set_cons_succ]
                refine Inv.take (i := 13) (v := .int .i64 0) (by decide) rfl (by kernel_rfl) (by kernel_rfl) (by kernel_rfl) (fun _ _ _ h => h) (by rfl) (fun w' => ?_) ?_
                · simp only [List.getElem_toArray, List.getElem_cons_zero, List.getElem_cons_succ]
                  go_simp
                try simp only [Act.put, List.setIfInBounds_toArray, List.set_cons_zero, List.set_cons_succ]
                refine Inv.done (by kernel_rfl) (NoPanic.normal ?_)
                go_wp2_with fail
                go_meet
                exact ⟨_, b, fa2, fc2, ga2, gc2, ra, rc, rfl, rfl, rfl, rfl, Lib.hid b18, Lib.hid (set5 h18 _ _ _ _ _), Lib.hid (q76.feed h18 _ _ _ _ _), Lib.hid (u76.feed h18 _ _ _ _ _), Lib.hid (q77.feed h18 _ _ _ _ _), Lib.hid (below_set5 hw b b18 _ _ _ _ _)⟩
              · obtain ⟨x69, y69, e69, t69, l69⟩ : RsT wS.heap.size n s kq nY fac (a1 + q) TT (fun j => X (q - kq + j)) YL (σ 69) wx := hd 6 (some 69) (by kernel_rfl) (by decide) (by decide) (by rfl)
                obtain ⟨fa2, fc2, ga2, gc2, e76, q76, u76⟩ : RsA wS.heap.size n s kq fac (a1 + q) TT (fun j => X (q - kq + j)) (σ 76) wx := hd 7 (some 76) (by kernel_rfl) (by decide) (by decide) (by rfl)
                obtain ⟨b, e18, b18, h18⟩ : ∃ b, (σ 18) = .pointer (some ⟨b, 0, none⟩) ∧ wS.heap.size ≤ b ∧ wx.heap[b]? = some (.cells #[.slice none 0 0, .int .i64 0, .int .i64 0, .slice none 0 0, .int .i64 0] 45 (0, 0)) := hd 10 (some 18) (by kernel_rfl) (by decide) (by decide) (by rfl)
                obtain ⟨ra, rc, e77, q77⟩ : RsL wS.heap.size nY YL (σ 77) wx := hd 8 (some 77) (by kernel_rfl) (by decide) (by decide) (by rfl)
                obtain e78 : (σ 78) = .int .i64 0 := hd 9 (some 78) (by kernel_rfl) (by decide) (by decide) (by rfl)
                simp only [e69, e76, e18, e77, e78]
                obtain ⟨z0, z1, z2, z3, z4⟩ := cells5 h18
                obtain ⟨g0, g1, g2, g3, g4⟩ := free5 h18
                refine Inv.one (i := 11) (by decide) (by kernel_rfl) (by rfl) (fun K hK => ?_)
                simp only [List.getElem_toArray, List.getElem_cons_zero, List.getElem_cons_succ, Act.put, List.setIfInBounds_toArray, List.set_cons_zero, List.set_cons_succ] at hK ⊢
                go_simp
                refine hK.out _ _ ?_
                clear hK K
                refine Inv.take (i := 12) (v := .slice ra nY rc) (by decide) rfl (by kernel_rfl) (by kernel_rfl) (by kernel_rfl) (fun _ _ _ h => h) (by rfl) (fun w' => ?_) ?_
                · simp only [List.getElem_toArray, List.getElem_cons_zero, List.getElem_cons_succ]
                  go_simp
                try simp only [Act.put, List.setIfInBounds_toArray, List.set_cons_zero, List.set_cons_succ]
                refine Inv.take (i := 13) (v := .int .i64 0) (by decide) rfl (by kernel_rfl) (by kernel_rfl) (by kernel_rfl) (fun _ _ _ h => h) (by rfl) (fun w' => ?_) ?_
                · simp only [List.getElem_toArray, List.getElem_cons_zero, List.getElem_cons_succ]
                  go_simp
                try simp only [Act.put, List.setIfInBounds_toArray, List.set_cons_zero, List.set_cons_succ]
                refine Inv.done (by kernel_rfl) (NoPanic.normal ?_)
                go_wp2_with fail
                go_meet
                exact ⟨_, b, fa2, fc2, ga2, gc2, ra, rc, rfl, rfl, rfl, rfl, Lib.hid b18, Lib.hid (set5 h18 _ _ _ _ _), Lib.hid (q76.feed h18 _ _ _ _ _), Lib.hid (u76.feed h18 _ _ _ _ _), Lib.hid (q77.feed h18 _ _ _ _ _), Lib.hid (below_set5 hw b b18 _ _ _ _ _)⟩
        case rest =>
          obtain ⟨wx, b, fa2, fc2, ga2, gc2, ra, rc, ewx, rfl, rfl, rfl, hbS, hP, hA, hC, hL, hW⟩ := hcut
          subst ewx
          have hub := Lib.hid (show ∀ k, (Value.slice ra0 rn0 rc0).ownBlock = some k → k < wS.heap.size from fun k hk => (own_blk HF.out.own k hk).2)
          have HFS := Lib.hid (show w10.heap.size ≤ wS.heap.size from HF.out.size)
          have HD := Lib.hid ((HF.out.below hW.out).below ((Below.refl _ wx).drew))
          have hgo := Lib.hid (show ∀ k, (Value.slice ra0 rn0 rc0).ownBlock = some k → w10.heap.size ≤ k from fun k hk => (own_blk HF.out.own k hk).1)
          have hkq' := hkq.out
          subst hkq'
          have hPd := Lib.hid (hop hP.out ((Below.refl _ wx).drew))
          obtain ⟨va8, vc8, ua8, uc8, P8d, -, -⟩ := HD.out.feed
          replace P8 := Lib.hid P8d
          have lt8x := Lib.hid (show b8 < w10.heap.size by omega)
          have hne8 := Lib.hid (show w1.heap.size < b8 by omega)
          have hob := Lib.hid (show ∀ k, (Value.slice ra0 rn0 rc0).ownBlock = some k → (k = b8 ∨ wS.heap.size ≤ k) → False from fun k hk h => by have h1 := hub.out k hk; have h2 := hgo.out k hk; have := lt8x.out; omega)
          have hb8lt := Lib.hid (show b8 < wx.drew.heap.size from (Array.getElem?_eq_some_iff.1 P8d).1)
          have hblt := Lib.hid (show b < wx.drew.heap.size from (Array.getElem?_eq_some_iff.1 hPd.out).1)
          have hB9 := Lib.hid (show w10.heap.size ≤ wx.drew.heap.size from HD.out.size)
          have SR := Lib.hid (src_list hnY.out (hL.out.below ((Below.refl _ wx).drew)))
          have ol := outs_len TT X n s fac a1 p
          have yl : nY ≤ 2000 := by
            rw [hnY.out, hYL.out]
            refine Nat.le_trans (outs_len _ _ _ _ _ _ _) (by omega)
          have m1 := Lib.hid (show (ints (outs TT X n s fac a1 p)).length + nY ≤ maxLen by rw [ints_len]; unfold maxLen; omega)
          have m2 := Lib.hid (show ((ints (outs TT X n s fac a1 p)).length + nY) * 8 ≤ 140737488355328 by rw [ints_len]; omega)
          replace hA := Lib.hid (hA.out.below ((Below.refl _ wx).drew))
          replace hC := Lib.hid (hC.out.below ((Below.refl _ wx).drew))
          clear P8d PN SXr hqxc ol yl
          go_upto_region 15 with fail
          refine wp_region_noPanic ?_
          refine wp_region_any (by kernel_rfl) ?_
          refine Inv.take (i := 1) (v := .slice ra0 rn0 rc0) (by decide) rfl (by kernel_rfl) (by kernel_rfl) (by kernel_rfl) (fun _ _ _ h => h) (by rfl) (fun w' => ?_) ?_
          · simp only [List.getElem_toArray, List.getElem_cons_zero, List.getElem_cons_succ]
            go_simp
          try simp only [Act.put, List.setIfInBounds_toArray, List.set_cons_zero, List.set_cons_succ]
          refine Inv.take (i := 2) (v := .slice ra nY rc) (by decide) rfl (by kernel_rfl) (by kernel_rfl) (by kernel_rfl) (fun _ _ _ h => h) (by rfl) (fun w' => ?_) ?_
          · simp only [List.getElem_toArray, List.getElem_cons_zero, List.getElem_cons_succ]
            go_simp
          try simp only [Act.put, List.setIfInBounds_toArray, List.set_cons_zero, List.set_cons_succ]
          refine Inv.take (i := 4) (v := .int .i64 q) (by decide) rfl (by kernel_rfl) (by kernel_rfl) (by kernel_rfl) (fun _ _ _ h => h) (by rfl) (fun w' => ?_) ?_
          · simp only [List.getElem_toArray, List.getElem_cons_zero, List.getElem_cons_succ]
            go_simp
          try simp only [Act.put, List.setIfInBounds_toArray, List.set_cons_zero, List.set_cons_succ]
          refine Inv.both (i := 0) (k := 3) (by decide) (by decide) (by kernel_rfl) (by rfl) (by rfl) (fun K hK => ?_) (fun K hK => ?_)
          · simp only [List.getElem_toArray, List.getElem_cons_zero, List.getElem_cons_succ, Act.put, List.setIfInBounds_toArray, List.set_cons_zero, List.set_cons_succ] at hK ⊢
            obtain ⟨y0, y1, y2, y3, y4⟩ := cells5 hPd.out
            go_simp
            refine hK.out _ _ ?_
            clear hK K y0 y1 y2 y3 y4
            refine Inv.one (i := 3) (by decide) (by kernel_rfl) (by rfl) (fun K hK => ?_)
            simp only [List.getElem_toArray, List.getElem_cons_zero, List.getElem_cons_succ, Act.put, List.setIfInBounds_toArray, List.set_cons_zero, List.set_cons_succ] at hK ⊢
            refine wp_app (.tmp 82) (.tmp 83) 22 22 rfl 3 i0 (.int .i64 0) 8 Try.underlying22 hi hz0 hz1 hz2 rfl (v := .slice ra0 rn0 rc0) rfl HD.out.own hB9.out (.slice ra nY rc) nY (ints YL) rfl SR.out m1.out m2.out ?_
            intro v' w' own' hg
            refine hK.out _ _ ?_
            clear hK K
            try simp only [Act.put, List.setIfInBounds_toArray, List.set_cons_zero, List.set_cons_succ]
            have P8w := (hg.block b8 hb8lt.out (fun e => hob.out b8 e.symm (.inl rfl))).trans P8.out
            obtain ⟨z0, z1, z2, z3, z4⟩ := cells5 P8w
            obtain ⟨g0, g1, g2, g3, g4⟩ := free5 P8w
            refine Inv.one (i := 5) (by decide) (by kernel_rfl) (by rfl) (fun K hK => ?_)
            simp only [List.getElem_toArray, List.getElem_cons_zero, List.getElem_cons_succ, Act.put, List.setIfInBounds_toArray, List.set_cons_zero, List.set_cons_succ] at hK ⊢
            go_simp
            refine hK.out _ _ ?_
            clear hK K
            refine Inv.take (i := 6) (v := v') (by decide) rfl (by kernel_rfl) (by kernel_rfl) (by kernel_rfl) (fun _ _ _ h => h) (by rfl) (fun w' => ?_) ?_
            · simp only [List.getElem_toArray, List.getElem_cons_zero, List.getElem_cons_succ]
              go_simp
            try simp only [Act.put, List.setIfInBounds_toArray, List.set_cons_zero, List.set_cons_succ]
            refine Inv.take (i := 7) (v := .int .i64 q) (by decide) rfl (by kernel_rfl) (by kernel_rfl) (by kernel_rfl) (fun _ _ _ h => h) (by rfl) (fun w' => ?_) ?_
            · simp only [List.getElem_toArray, List.getElem_cons_zero, List.getElem_cons_succ]
              go_simp
            try simp only [Act.put, List.setIfInBounds_toArray, List.set_cons_zero, List.set_cons_succ]
            refine Inv.done (by kernel_rfl) (NoPanic.normal ?_)
            go_wp2_with fail
            go_roundw
            case rel => exact ⟨q, hqL, rfl, Lib.hid (HD.out.round own' hg hcat.out (HFS.out) hub.out hA.out hC.out lt10' lt8x.out hne8.out rfl rfl rfl rfl rfl)⟩
            case measure => simp [intOf]; omega
          · simp only [List.getElem_toArray, List.getElem_cons_zero, List.getElem_cons_succ, Act.put, List.setIfInBounds_toArray, List.set_cons_zero, List.set_cons_succ] at hK ⊢
            refine wp_app (.tmp 82) (.tmp 83) 22 22 rfl 3 i0 (.int .i64 0) 8 Try.underlying22 hi hz0 hz1 hz2 rfl (v := .slice ra0 rn0 rc0) rfl HD.out.own hB9.out (.slice ra nY rc) nY (ints YL) rfl SR.out m1.out m2.out ?_
            intro v' w' own' hg
            refine hK.out _ _ ?_
            clear hK K
            try simp only [Act.put, List.setIfInBounds_toArray, List.set_cons_zero, List.set_cons_succ]
            obtain ⟨y0, y1, y2, y3, y4⟩ := cells5 ((hg.block b hblt.out (fun e => hob.out b e.symm (.inr hbS.out))).trans hPd.out)
            refine Inv.one (i := 0) (by decide) (by kernel_rfl) (by rfl) (fun K hK => ?_)
            simp only [List.getElem_toArray, List.getElem_cons_zero, List.getElem_cons_succ, Act.put, List.setIfInBounds_toArray, List.set_cons_zero, List.set_cons_succ] at hK ⊢
            go_simp
            refine hK.out _ _ ?_
            clear hK K y0 y1 y2 y3 y4
            have P8w := (hg.block b8 hb8lt.out (fun e => hob.out b8 e.symm (.inl rfl))).trans P8.out
            obtain ⟨z0, z1, z2, z3, z4⟩ := cells5 P8w
            obtain ⟨g0, g1, g2, g3, g4⟩ := free5 P8w
            refine Inv.one (i := 5) (by decide) (by kernel_rfl) (by rfl) (fun K hK => ?_)
            simp only [List.getElem_toArray, List.getElem_cons_zero, List.getElem_cons_succ, Act.put, List.setIfInBounds_toArray, List.set_cons_zero, List.set_cons_succ] at hK ⊢
            go_simp
            refine hK.out _ _ ?_
            clear hK K
            refine Inv.take (i := 6) (v := v') (by decide) rfl (by kernel_rfl) (by kernel_rfl) (by kernel_rfl) (fun _ _ _ h => h) (by rfl) (fun w' => ?_) ?_
            · simp only [List.getElem_toArray, List.getElem_cons_zero, List.getElem_cons_succ]
              go_simp
            try simp only [Act.put, List.setIfInBounds_toArray, List.set_cons_zero, List.set_cons_succ]
            refine Inv.take (i := 7) (v := .int .i64 q) (by decide) rfl (by kernel_rfl) (by kernel_rfl) (by kernel_rfl) (fun _ _ _ h => h) (by rfl) (fun w' => ?_) ?_
            · simp only [List.getElem_toArray, List.getElem_cons_zero, List.getElem_cons_succ]
              go_simp
            try simp only [Act.put, List.setIfInBounds_toArray, List.set_cons_zero, List.set_cons_succ]
            refine Inv.done (by kernel_rfl) (NoPanic.normal ?_)
            go_wp2_with fail
            go_roundw
            case rel => exact ⟨q, hqL, rfl, Lib.hid (HD.out.round own' hg hcat.out (HFS.out) hub.out hA.out hC.out lt10' lt8x.out hne8.out rfl rfl rfl rfl rfl)⟩
            case measure => simp [intOf]; omega
      · obtain rfl : p = L := by omega
        have SO := (sf_list HF.out.own)
        rw [hOL.out] at SO
        have ern : rn0 = oL := by obtain ⟨a, c, e⟩ := sf_form SO; cases e; rfl
        subst ern
        have hol : rn0 ≤ 1000000 := by have := outs_len TT X n s fac a1 p; rw [hOL.out] at this; omega
        have SW := HF.out.old S3.out H8.out
        have SLr := HF.out.old SL.out H8.out
        have S1r := HF.out.old S1.out H8.out
        have S2r := HF.out.old S2.out H8.out
        have P10r := Lib.hid ((HF.out.keep b10 (by omega) (by omega) (by omega)).trans P10.out)
        obtain ⟨fa, fc, ga, gc, P8r, f1, f2⟩ := HF.out.feed
        rw [hkL.out] at P8r f2
        have nb := FGH.out.n2
        have kb : kL ≤ 1000000 := by rw [← hkL.out]; unfold kept; omega
        have C1 := Lib.hid fun w' (hb : Below wr.heap.size wr w') => same_yes (SO.sv.below hb) (SW.sv.below hb) (fun _ _ => rfl) hol
        have C2 := Lib.hid fun w' (hb : Below wr.heap.size wr w') => same_yes (SLr.sv.below hb) (SW.sv.below hb) (fun _ _ => rfl) hol
        have C3 := Lib.hid fun w' (hb : Below wr.heap.size wr w') => samefeed_any (fac := fac) (s := (s : Int)) (num := a1 + p) (f1.sv.below hb) (S1r.sv.below hb) (f2.sv.below hb) (S2r.sv.below hb) (show n ≤ 1000000 by omega) kb
        replace P8r := Lib.hid P8r
        clear SO SW SLr S1r S2r f1 f2
        have WB := Lib.hid HF.out.di.bel
        clear HF
        go_wp2_with fail
        refine (C1.out _ (Below.refl _ _)).mono ?_
        rintro e wa ⟨rfl, hba⟩
        have HB := Lib.hid hba
        clear hba
        go_wp2_with fail
        refine (C2.out _ HB.out).mono ?_
        rintro e wb ⟨rfl, hbb⟩
        replace HB := Lib.hid (Buf.then_ HB.out hbb)
        clear hbb
        obtain ⟨y0, y1, y2, y3, y4⟩ := cells5 (hop P8r.out HB.out)
        obtain ⟨x0, x1, x2, x3, x4⟩ := cells5 (hop P10r.out HB.out)
        go_wp2_with fail
        refine (C3.out _ HB.out).mono ?_
        rintro e wc ⟨rfl, hbc⟩
        replace HB := Lib.hid (Buf.then_ HB.out hbc)
        clear hbc y0 y1 y2 y3 y4 x0 x1 x2 x3 x4
        go_wp2_with (go_at_call 7; refine (Fil.sane_any _).mono ?_; rintro e w20 ⟨rfl, hb⟩; replace HB := Lib.hid (Buf.then_ HB.out hb); clear hb)
        go_ret
        exact ⟨rfl, Buf.then_ WB.out HB.out⟩
  · have hd : decide ((len0 : Int) ≤ 500) = false := by simp; omega
    go_enter Try.func4, Try.ntmps4
    go_wp2_with (first | (go_at_call 6; refine (light_any _ _ _ _).mono ?_; rintro e w1 ⟨rfl, rfl⟩; rw [hd]) | (go_at_call 7; refine (Fil.sane_any _).mono ?_; rintro e w2 ⟨rfl, hb⟩))
    go_ret
    exact ⟨rfl, hb⟩
end Laws
end Go.Proofs.Ytmnafkfjmeoklaa
