/- The walk of SteimDamage. -/
import Derived.Test.YthdahfaejpjkhaaStmR
import Derived.Test.YthdahfaejpjkhaaInv
import Derived.Deep.RegionHeld3
set_option linter.unusedVariables false
set_option linter.unusedSimpArgs false
namespace Go.Proofs.Ythdahfaejpjkhaa
open Go.RowKit Dice Ri Rk
namespace St
theorem wrap_nat (i : Nat) (h : i < 1000) : IntKind.i64.wrap (i : Int) = i := IntWalk.i64_in _ (by omega)
theorem ro_one {w : World} {h : Nat} {x : Int} (l : h < w.heap.size) (c : w.cell? ⟨h, 0, none⟩ = some (.int .i64 x)) : Ro w (some ⟨h, 0, none⟩) 1 1 [x] :=
  ⟨rfl, Nat.le_refl _, by omega, fun _ => ⟨h, 0, rfl, l, fun j y hy => by
    cases j with
    | zero => simp at hy; subst hy; exact c
    | succ j => simp at hy⟩⟩
end St
namespace Laws
open St
set_option maxHeartbeats 8000000 in
set_option maxRecDepth 100000 in
theorem steimDamage_walk (a0 : Option Addr) (len0 cap0 : Nat) (z0 : List Int) (a1 : Int) (w : World) (w0 : Buf.IsRow .i64 w a0 len0 cap0 z0) (wf1 : (Lit.int .u32 a1).wf = true) :
    Calls Try.prog 6 #[.slice a0 len0 cap0, .int .u32 a1] w fun e w' => e = .returned (.bool true) ∧ Below w.heap.size w w' := by
  have Sn := Lib.hid St.sane_any
  obtain ⟨b0, b1⟩ : 0 ≤ a1 ∧ a1 ≤ 4294967295 := Ma.wf_u32 wf1
  clear wf1
  by_cases hs : len0 ≤ 500
  · have hd : decide ((len0 : Int) ≤ 500) = true := by simp; omega
    go_enter Try.func6, Try.ntmps6
    go_upto_region 4 with (first | (go_at_call 7; refine (light_any _ _ _ _).mono ?_; rintro e w1 ⟨rfl, hw⟩; replace hw := hw.symm; subst hw; rw [hd]) | (go_at_call 9; refine (roll_any a0 len0 cap0 z0 _ w0 hs).mono ?_; rintro e w2 ⟨rfl, hdi⟩))
    go_wp2_with fail
    with_reducible refine (sampled 60 60 rfl (by omega) (by omega) hdi).mono ?_
    rintro e w3 ⟨⟨b, n, c, L, rfl, hn, R, hL, l1, l9, hbn⟩, hl⟩
    have B := Lib.hid hl.di.bel
    clear hdi hl hbn
    have hf := fo_le L (by omega)
    have hf1 : 1 ≤ fo (wds (df L)).length := by unfold fo; omega
    have E := Lib.hid (encode_any R l1 (by omega) hL hf)
    obtain ⟨y, hy⟩ : ∃ y, y = L.getD (L.length - 1) 0 % 4294967296 := ⟨_, rfl⟩
    have y0 : 0 ≤ y := by omega
    have y1 : y < 4294967296 := by omega
    obtain ⟨Y, rfl⟩ := Int.eq_ofNat_of_zero_le y0
    obtain ⟨A, rfl⟩ := Int.eq_ofNat_of_zero_le b0
    obtain ⟨xn, xl⟩ := xor_ne Y A (by omega) (by omega)
    obtain ⟨z, hz⟩ : ∃ z : Nat, z = Y ^^^ (A ||| 1) := ⟨_, rfl⟩
    rw [← hz] at xn xl
    replace xl : (z : Int) < 4294967296 := by omega
    have hlast : L.getD (n - 1) 0 = Ma.sg (Y : Int) 2147483648 4294967296 := by rw [hy, hn, sg32 _ (getD_in hL _)]
    have DE := Lib.hid fun w' => decode_enc L hL (z : Int) (by omega) (by omega) hf n l1 (by omega) (by omega) _ rfl w'
    have DC := Lib.hid fun w' => (DE.out w').mono (R' := fun e w'' => e = .returned (.tuple #[.slice none 0 0, .int .i64 11]) ∧ Below w'.heap.size w' w'') (by
      rintro e w'' ⟨h | h, hb⟩
      · exfalso
        have := sg_inj ⟨by omega, by omega⟩ ⟨by omega, by omega⟩ (hlast.symm.trans h.1)
        omega
      · exact ⟨h.2, hb⟩)
    obtain ⟨h3, rest, e3⟩ := enc_three L
    have ee : enc L = be4 h3 ++ (be4 (L.getD 0 0 % 4294967296) ++ be4 (Y : Int)) ++ rest := by rw [hy]; exact e3 _
    rw [e3] at DC
    have le := enc_len L
    -- one sample more
    obtain ⟨M, hM⟩ : ∃ M, M = L ++ [L.getD (n - 1) 0] := ⟨_, rfl⟩
    have ml : M.length = n + 1 := by rw [hM, List.length_append, ← hn]; rfl
    have hMS : InS M := by
      intro x hx
      rw [hM] at hx
      rcases List.mem_append.1 hx with h | h
      · exact hL x h
      · rw [List.mem_singleton] at h; rw [h]; exact getD_in hL _
    have hfM := fo_le M (by omega)
    have tkM : M.take n = L := by rw [hM, List.take_left' hn.symm]
    have gM : M.getD (n - 1) 0 = M.getD (M.length - 1) 0 := by
      rw [ml, Nat.add_sub_cancel, hM, List.getD_eq_getElem?_getD, List.getElem?_append_left (by omega), List.getD_eq_getElem?_getD, List.getElem?_append_right (by omega), ← hn, Nat.sub_self, ← List.getD_eq_getElem?_getD]
      rfl
    have EM := Lib.hid fun (w' : World) (a : Option Addr) (c : Nat) (R' : Ro w' a (n + 1) c M) => encode_any R' (by omega) (by omega) hMS hfM
    have DM := Lib.hid fun w' => decode_enc M hMS (M.getD (M.length - 1) 0 % 4294967296) (by omega) (by omega) hfM n l1 (by omega) (by omega) _ (sg32 _ (getD_in hMS _)) w'
    have hen : bys (allw (fo (wds (df M)).length) (ewy M (M.getD (M.length - 1) 0 % 4294967296))) = enc M := rfl
    rw [hen, tkM] at DM
    have lM := enc_len M
    rw [ee] at E le
    have G := Lib.hid fun w' => R4.get_ok ⟨⟨be4 h3 ++ (be4 (L.getD 0 0 % 4294967296) ++ be4 (Y : Int)) ++ rest⟩⟩ 8 4 w' (by show List.length _ ≤ _; rw [le]; omega) (by omega) (by omega) (by show _ ≤ List.length _; rw [le]; omega)
    rw [three_get h3 _ (Y : Int) rest (by omega) (by omega)] at G
    have TP := three_put h3 (L.getD 0 0 % 4294967296) Y z rest
    have PZ := Lib.hid fun w' => R4.put_yes ByteArray.empty (z : Int) 4 w' (by decide) (by omega) (by omega) (by omega) (by rw [show (2 : Int) ^ (8 * 4) = 4294967296 from by decide]; omega)
    rw [Int.toNat_natCast] at PZ
    generalize be4 h3 ++ (be4 (L.getD 0 0 % 4294967296) ++ be4 (z : Int)) ++ rest = q at *
    generalize be4 h3 ++ (be4 (L.getD 0 0 % 4294967296) ++ be4 (Y : Int)) ++ rest = p at *
    generalize enc M = r at *
    obtain ⟨N, hN⟩ : ∃ N, N = p.length := ⟨_, rfl⟩
    have N1 : (64 : Int) ≤ N := by omega
    have N2 : (N : Int) ≤ 512 := by omega
    have gx : -1073741823 ≤ L.getD (n - 1) 0 ∧ L.getD (n - 1) 0 ≤ 1073741823 := getD_in hL _
    obtain ⟨v, hv⟩ : ∃ v, v = L.getD (n - 1) 0 := ⟨_, rfl⟩
    rw [← hv] at hM
    have HM := Lib.hid hM
    have HV := Lib.hid hv
    have HY := Lib.hid xn
    have HZ := Lib.hid hz
    have GM := Lib.hid gM
    replace hn := Lib.hid hn
    replace R := Lib.hid R
    clear hM hv xn hz gM tkM e3 ee hlast hy DE hen hfM hMS hf hf1 hL lM ml gx
    go_wp2_with fail
    with_reducible refine E.out.mono ?_
    rintro e w4 ⟨rfl, b4⟩
    replace R := Lib.hid (R.out.below b4)
    replace B := Lib.hid (Buf.then_ B.out b4)
    clear b4 E
    have sp : (ByteArray.mk ⟨p⟩).size = p.length := rfl
    rw [← hN] at sp TP
    replace hN := Lib.hid hN
    replace le := Lib.hid le
    replace TP := Lib.hid TP
    have HB := Lib.hid (And.intro y0 (And.intro y1 (And.intro b0 (And.intro b1 xl))))
    clear y0 y1 b0 b1 xl
    have g5 : ¬ ((N : Int) < 64) := by omega
    replace N1 := Lib.hid N1
    replace N2 := Lib.hid N2
    clear w0 hs hd
    go_wp2_with fail
    refine (G.out _).mono ?_
    rintro e w5 ⟨rfl, m5, rfl⟩
    replace R := Lib.hid (R.out.below (Buf.below_drewN (Below.refl _ _) m5))
    replace B := Lib.hid (Buf.below_drewN B.out m5)
    generalize w4.drewN m5 = w5 at *
    clear G
    have hxz : bits .xor .i64 (Y : Int) (bits .or .i64 (wrap64 (A : Int)) 1) = (z : Int) := by
      obtain ⟨y0, y1, b0, b1, xl⟩ := HB.out
      have e1 : wrap64 (A : Int) = (A : Int) := by unfold wrap64; omega
      rw [e1, HZ.out, show (1 : Int) = ((1 : Nat) : Int) from rfl, Ma.or_nat A 1 (by omega) (by decide), Ma.xor_nat Y (A ||| 1) (by omega) (by
        have := Nat.or_lt_two_pow (x := A) (y := 1) (n := 32) (by omega) (by decide)
        omega)]
    go_upto_region 10 with fail
    replace hxz := Lib.hid hxz
    go_wp2_with fail
    refine (PZ.out _).mono ?_
    rintro e w6 ⟨rfl, b6⟩
    replace R := Lib.hid (R.out.below b6)
    replace B := Lib.hid (Buf.then_ B.out b6)
    clear b6 PZ
    have TQ := TP.out
    unfold be4 at TQ
    rw [Int.toNat_natCast] at TQ
    replace TQ := Lib.hid TQ
    go_upto_region 11 with fail
    have hc4 : (Ma.cat ByteArray.empty (Ma.beTo z 4 0)).size = 4 := by rw [Ma.cat_size, Ma.beTo_length]; rfl
    replace hc4 := Lib.hid hc4
    have HN := Lib.hid (show N ≤ 512 by have h := N2.out; omega)
    refine Buf.region_calm w6 (by kernel_rfl) (by kernel_rfl) (Below.refl _ _) ?_
    repeat (go_big_quiet_step ((intro hC; first
      | (go_at_call 12; rw [TQ.out]; exact Buf.calm hC (DC.out _))
      | rfl
      | (rw [if_neg (by have := HN.out; have := hc4.out; omega)]; exact ⟨rfl, rfl⟩)
      | (rw [if_neg (by have := HN.out; have := hc4.out; simp only [ByteArray.size_append, ByteArray.size_extract]; omega)]; exact ⟨rfl, rfl⟩))))
    refine wpQuiet_nil ?_
    intro w7 b7
    replace R := Lib.hid (R.out.below b7)
    replace B := Lib.hid (Buf.then_ B.out b7)
    clear b7 DC TQ TP HN hc4
    obtain ⟨wS, hwS⟩ : ∃ wS, wS = w7 := ⟨_, rfl⟩
    rw [← hwS]
    rw [← hwS] at R B
    clear hwS
    obtain ⟨g, f, rfl⟩ := R.out.form (by omega)
    obtain ⟨i, hi⟩ : ∃ i, i = n - 1 := ⟨_, rfl⟩
    have ei : (n : Int) - 1 = (i : Int) := by omega
    have hin : i < n := by omega
    have hini : (i : Int) < n := by omega
    have RS := R.out
    have CX := Lib.hid fun wx (h : Below wS.heap.size wS wx) => (RS.below h).cell i hin
    have HVi : L.getD i 0 = v := by rw [HV.out, hi]
    rw [HVi] at CX
    replace hi := Lib.hid hi
    have wi := Lib.hid (wrap_nat i (by omega))
    go_upto_region 12 with fail
    refine wp_region_noPanic ?_
    refine wp_region_any (by kernel_rfl) ?_
    have hw0 : Below wS.heap.size wS wS.drew := (Below.refl _ _).drew
    refine Inv.wpAny_inv (fun k => k == 9 || k == 10 || k == 11 || k == 12 || k == 13 || k == 14 || k == 15) [69, 70, 71, 72, 73, 74, 75, 76, 77] (fun w' => Below wS.heap.size wS w') (fun _ w1 w2 => Below w1.heap.size w1 w2) (fun k => ([fun v_ w_ => v_ = .slice (some ⟨g, f, none⟩) n c, fun v_ w_ => Buf.Own wS.heap.size w_ v_ (iv L), fun v_ w_ => v_ = .slice (some ⟨g, f, none⟩) n c, fun v_ w_ => v_ = .slice (some ⟨g, f, none⟩) n c, fun v_ w_ => v_ = .int .i64 n, fun v_ w_ => v_ = .int .i64 i, fun v_ w_ => v_ = .pointer (some ⟨g, f + i, none⟩), fun v_ w_ => v_ = .int .i64 v, fun v_ w_ => ∃ h, v_ = .slice (some ⟨h, 0, none⟩) 1 1 ∧ h < w_.heap.size ∧ w_.cell? ⟨h, 0, none⟩ = some (.int .i64 v), fun v_ w_ => True, fun v_ w_ => True, fun v_ w_ => True, fun v_ w_ => True, fun v_ w_ => True, fun v_ w_ => True, fun v_ w_ => True] : List (Value → World → Prop)).getD k (fun _ _ => True)) _ (fun σ => by simp only [Inv.putAll, List.foldl_cons, List.foldl_nil, Act.put, List.setIfInBounds_toArray, List.set_cons_zero, List.set_cons_succ]; rfl) (by kernel_rfl) (by kernel_rfl) ?_ hw0 ?_ ?_ 7 #[true, true, true, true, true, true, true, true, true, false, false, false, false, false, false, false] (by kernel_rfl) (by kernel_rfl) ?_
    · intro j k v w1 w2 hjk hv hr
      rcases k with _ | k
      · exact hv
      rcases k with _ | k
      · exact hv.below hr
      rcases k with _ | k
      · exact hv
      rcases k with _ | k
      · exact hv
      rcases k with _ | k
      · exact hv
      rcases k with _ | k
      · exact hv
      rcases k with _ | k
      · exact hv
      rcases k with _ | k
      · exact hv
      rcases k with _ | k
      · exact (by obtain ⟨h, h1, h2, h3⟩ := hv; exact ⟨h, h1, Nat.lt_of_lt_of_le h2 hr.size, (World.cell?_of_block (a := ⟨h, 0, none⟩) (hr.block h h2)).trans h3⟩)
      rcases k with _ | k
      · exact hv
      rcases k with _ | k
      · exact hv
      rcases k with _ | k
      · exact hv
      rcases k with _ | k
      · exact hv
      rcases k with _ | k
      · exact hv
      rcases k with _ | k
      · exact hv
      rcases k with _ | k
      · exact hv
      · exact hv
    · intro k t hl hd
      rcases k with _ | k
      · exact absurd hl (by decide +kernel)
      rcases k with _ | k
      · exact absurd hl (by decide +kernel)
      rcases k with _ | k
      · exact absurd hl (by decide +kernel)
      rcases k with _ | k
      · exact absurd hl (by decide +kernel)
      rcases k with _ | k
      · exact absurd hl (by decide +kernel)
      rcases k with _ | k
      · exact absurd hl (by decide +kernel)
      rcases k with _ | k
      · exact absurd hl (by decide +kernel)
      rcases k with _ | k
      · exact absurd hl (by decide +kernel)
      rcases k with _ | k
      · exact absurd hl (by decide +kernel)
      rcases k with _ | k
      · exact absurd hl (by decide +kernel)
      rcases k with _ | k
      · exact absurd hl (by decide +kernel)
      rcases k with _ | k
      · exact absurd hl (by decide +kernel)
      rcases k with _ | k
      · exact absurd hl (by decide +kernel)
      rcases k with _ | k
      · exact absurd hl (by decide +kernel)
      rcases k with _ | k
      · exact absurd hl (by decide +kernel)
      rcases k with _ | k
      · exact absurd hl (by decide +kernel)
      · simp at hd
    · show Inv.Steps _ _ _ _ _ _ _ _ [0, 1, 2, 3, 4, 5, 6, 7, 8]
      refine Inv.Steps.go (by decide) (by rfl) (fun σ wx hw hd K hK => ?_) ?_
      · simp only [List.getElem_toArray, List.getElem_cons_zero, List.getElem_cons_succ, Act.put, List.setIfInBounds_toArray, List.set_cons_zero, List.set_cons_succ] at hK ⊢
        go_simp
        exact hK.out _ _ hw (Below.refl _ _) (rfl)
      refine Inv.Steps.go (by decide) (by rfl) (fun σ wx hw hd K hK => ?_) ?_
      · obtain e69 : (σ 69) = .slice (some ⟨g, f, none⟩) n c := hd 0 (some 69) (by kernel_rfl) (by rfl)
        simp only [List.getElem_toArray, List.getElem_cons_zero, List.getElem_cons_succ, Act.put, List.setIfInBounds_toArray, List.set_cons_zero, List.set_cons_succ, e69] at hK ⊢
        refine wp_copy _ (.tmp 69) rfl wx.heap.size rfl _ _ _ rfl (RS.below hw) l1 (by omega) (Nat.le_refl _) ?_
        intro v' w' ho hb
        exact hK.out _ _ (Buf.then_ hw hb) hb (ho.mono hw.size)
      refine Inv.Steps.go (by decide) (by rfl) (fun σ wx hw hd K hK => ?_) ?_
      · simp only [List.getElem_toArray, List.getElem_cons_zero, List.getElem_cons_succ, Act.put, List.setIfInBounds_toArray, List.set_cons_zero, List.set_cons_succ] at hK ⊢
        go_simp
        exact hK.out _ _ hw (Below.refl _ _) (rfl)
      refine Inv.Steps.go (by decide) (by rfl) (fun σ wx hw hd K hK => ?_) ?_
      · simp only [List.getElem_toArray, List.getElem_cons_zero, List.getElem_cons_succ, Act.put, List.setIfInBounds_toArray, List.set_cons_zero, List.set_cons_succ] at hK ⊢
        go_simp
        exact hK.out _ _ hw (Below.refl _ _) (rfl)
      refine Inv.Steps.go (by decide) (by rfl) (fun σ wx hw hd K hK => ?_) ?_
      · obtain e72 : (σ 72) = .slice (some ⟨g, f, none⟩) n c := hd 3 (some 72) (by kernel_rfl) (by rfl)
        simp only [List.getElem_toArray, List.getElem_cons_zero, List.getElem_cons_succ, Act.put, List.setIfInBounds_toArray, List.set_cons_zero, List.set_cons_succ, e72] at hK ⊢
        go_simp
        exact hK.out _ _ hw (Below.refl _ _) (rfl)
      refine Inv.Steps.go (by decide) (by rfl) (fun σ wx hw hd K hK => ?_) ?_
      · obtain e73 : (σ 73) = .int .i64 n := hd 4 (some 73) (by kernel_rfl) (by rfl)
        simp only [List.getElem_toArray, List.getElem_cons_zero, List.getElem_cons_succ, Act.put, List.setIfInBounds_toArray, List.set_cons_zero, List.set_cons_succ, e73] at hK ⊢
        go_simp
        try rw [wi.out]
        exact hK.out _ _ hw (Below.refl _ _) (rfl)
      refine Inv.Steps.go (by decide) (by rfl) (fun σ wx hw hd K hK => ?_) ?_
      · obtain e71 : (σ 71) = .slice (some ⟨g, f, none⟩) n c := hd 2 (some 71) (by kernel_rfl) (by rfl)
        obtain e74 : (σ 74) = .int .i64 i := hd 5 (some 74) (by kernel_rfl) (by rfl)
        simp only [List.getElem_toArray, List.getElem_cons_zero, List.getElem_cons_succ, Act.put, List.setIfInBounds_toArray, List.set_cons_zero, List.set_cons_succ, e71, e74] at hK ⊢
        go_simp
        exact hK.out _ _ hw (Below.refl _ _) (rfl)
      refine Inv.Steps.go (by decide) (by rfl) (fun σ wx hw hd K hK => ?_) ?_
      · obtain e75 : (σ 75) = .pointer (some ⟨g, f + i, none⟩) := hd 6 (some 75) (by kernel_rfl) (by rfl)
        simp only [List.getElem_toArray, List.getElem_cons_zero, List.getElem_cons_succ, Act.put, List.setIfInBounds_toArray, List.set_cons_zero, List.set_cons_succ, e75] at hK ⊢
        have cx := CX.out wx hw
        go_simp
        exact hK.out _ _ hw (Below.refl _ _) (rfl)
      refine Inv.Steps.go (by decide) (by rfl) (fun σ wx hw hd K hK => ?_) ?_
      · obtain e76 : (σ 76) = .int .i64 v := hd 7 (some 76) (by kernel_rfl) (by rfl)
        simp only [List.getElem_toArray, List.getElem_cons_zero, List.getElem_cons_succ, Act.put, List.setIfInBounds_toArray, List.set_cons_zero, List.set_cons_succ, e76] at hK ⊢
        have hnew := heap_alloc_new wx (.cells #[.int .i64 v] 3)
        go_simp
        exact hK.out _ _ (hw.alloc hw.size _) (new_block _) (⟨wx.heap.size, rfl, by simp, (World.cell?_alloc_mark wx #[.int .i64 v] 3 (0, 0) 0).trans rfl⟩)
      exact Inv.Steps.nil
    · intro σ wx hw hd
      obtain o70 : Buf.Own wS.heap.size wx (σ 70) (iv L) := hd 1 (some 70) (by kernel_rfl) (by rfl)
      obtain ⟨h, e77, l77, c77⟩ : ∃ h, (σ 77) = .slice (some ⟨h, 0, none⟩) 1 1 ∧ h < wx.heap.size ∧ wx.cell? ⟨h, 0, none⟩ = some (.int .i64 v) := hd 8 (some 77) (by kernel_rfl) (by rfl)
      simp only [e77]
      refine Inv.one (i := 9) (by decide) (by kernel_rfl) (by rfl) (fun K hK => ?_)
      simp only [List.getElem_toArray, List.getElem_cons_zero, List.getElem_cons_succ, Act.put, List.setIfInBounds_toArray, List.set_cons_zero, List.set_cons_succ] at hK ⊢
      refine wp_more (.tmp 70) (.tmp 77) rfl wS.heap.size _ L rfl o70 _ 1 1 rfl (ro_one l77 c77) (by omega) (by have := hn.out; omega) hw.size ?_
      intro v' w' ho hb
      refine hK.out _ _ ?_
      clear hK K
      try simp only [Act.put, List.setIfInBounds_toArray, List.set_cons_zero, List.set_cons_succ]
      have hw2 := hw.trans hb
      obtain ⟨am, nm, cm, rfl, RM⟩ := ro_any ho
      obtain rfl : nm = n + 1 := by have := RM.len; have := hn.out; simp at *; omega
      rw [← HM.out] at RM
      refine Inv.one (i := 10) (by decide) (by kernel_rfl) (by rfl) (fun K hK => ?_)
      simp only [List.getElem_toArray, List.getElem_cons_zero, List.getElem_cons_succ, Act.put, List.setIfInBounds_toArray, List.set_cons_zero, List.set_cons_succ] at hK ⊢
      go_simp
      go_at_call 11
      refine (EM.out _ _ _ RM).mono ?_
      rintro e w1 ⟨rfl, hb2⟩
      dsimp only
      refine hK.out _ _ ?_
      clear hK K
      try simp only [Act.put, List.setIfInBounds_toArray, List.set_cons_zero, List.set_cons_succ]
      refine Inv.take (i := 11) (v := (.tuple #[.string ⟨⟨r⟩⟩, .int .i64 0])) (by decide) rfl (by kernel_rfl) (by kernel_rfl) (by kernel_rfl) (fun _ _ _ h => h) (by rfl) (fun w' => ?_) ?_
      · simp only [List.getElem_toArray, List.getElem_cons_zero, List.getElem_cons_succ]
        go_simp
      try simp only [Act.put, List.setIfInBounds_toArray, List.set_cons_zero, List.set_cons_succ]
      refine Inv.take (i := 12) (v := (.string ⟨⟨r⟩⟩)) (by decide) rfl (by kernel_rfl) (by kernel_rfl) (by kernel_rfl) (fun _ _ _ h => h) (by rfl) (fun w' => ?_) ?_
      · simp only [List.getElem_toArray, List.getElem_cons_zero, List.getElem_cons_succ]
        go_simp
      try simp only [Act.put, List.setIfInBounds_toArray, List.set_cons_zero, List.set_cons_succ]
      refine Inv.take (i := 13) (v := (.int .i64 0)) (by decide) rfl (by kernel_rfl) (by kernel_rfl) (by kernel_rfl) (fun _ _ _ h => h) (by rfl) (fun w' => ?_) ?_
      · simp only [List.getElem_toArray, List.getElem_cons_zero, List.getElem_cons_succ]
        go_simp
      try simp only [Act.put, List.setIfInBounds_toArray, List.set_cons_zero, List.set_cons_succ]
      refine Inv.take (i := 14) (v := (.string ⟨⟨r⟩⟩)) (by decide) rfl (by kernel_rfl) (by kernel_rfl) (by kernel_rfl) (fun _ _ _ h => h) (by rfl) (fun w' => ?_) ?_
      · simp only [List.getElem_toArray, List.getElem_cons_zero, List.getElem_cons_succ]
        go_simp
      try simp only [Act.put, List.setIfInBounds_toArray, List.set_cons_zero, List.set_cons_succ]
      refine Inv.take (i := 15) (v := (.int .i64 0)) (by decide) rfl (by kernel_rfl) (by kernel_rfl) (by kernel_rfl) (fun _ _ _ h => h) (by rfl) (fun w' => ?_) ?_
      · simp only [List.getElem_toArray, List.getElem_cons_zero, List.getElem_cons_succ]
        go_simp
      try simp only [Act.put, List.setIfInBounds_toArray, List.set_cons_zero, List.set_cons_succ]
      refine Inv.done (by kernel_rfl) (NoPanic.normal ?_)
      have BX := Lib.hid (Buf.then_ hw2 hb2)
      replace B := Lib.hid (Buf.then_ B.out BX.out)
      replace R := Lib.hid (R.out.below BX.out)
      clear hw hd hw0 hw2 hb hb2 ho RM o70 e77 l77 c77 CX RS
      go_wp2_with fail
      refine (DM.out _).mono ?_
      rintro e w9 ⟨h9, b9⟩
      replace B := Lib.hid (Buf.then_ B.out b9)
      replace R := Lib.hid (R.out.below b9)
      clear b9
      rcases h9 with ⟨hxy, b', c', rfl, R'⟩ | ⟨hxy, _⟩
      · clear hxy
        have SM := Lib.hid (same_any R' R.out)
        go_wp2_with fail
        with_reducible refine SM.out.mono ?_
        rintro e w10 ⟨rfl, b10⟩
        replace B := Lib.hid (Buf.then_ B.out b10)
        clear b10 SM
        go_wp2_with fail
        with_reducible refine (Sn.out _).mono ?_
        rintro e w11 ⟨rfl, b11⟩
        go_wp2_with fail
        go_ret
        exact ⟨rfl, Buf.then_ B.out b11⟩
      · exact absurd GM.out hxy
  · have hd : decide ((len0 : Int) ≤ 500) = false := by simp; omega
    go_enter Try.func6, Try.ntmps6
    go_wp2_with (first | (go_at_call 7; refine (light_any _ _ _ _).mono ?_; rintro e w1 ⟨rfl, rfl⟩; rw [hd]) | (go_at_call 8; refine (Sn.out _).mono ?_; rintro e w2 ⟨rfl, hb⟩))
    go_ret
    exact ⟨rfl, hb⟩
end Laws
end Go.Proofs.Ythdahfaejpjkhaa
