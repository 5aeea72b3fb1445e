/- The walk of DetectorStream. -/
import Derived.Test.YtbmcmiggifknfaaDoorDetSL
import Derived.Test.YtbmcmiggifknfaaDoorDetG
import Derived.Test.YtbmcmiggifknfaaDoorDetF
import Derived.Test.YtbmcmiggifknfaaDoorDetW
import Derived.Test.YtbmcmiggifknfaaDoorInvC
import Derived.Test.YtbmcmiggifknfaaDoorMidN
import Derived.Lib.MinMax
import Derived.Laws.StructEq
import Derived.Deep.DeepCutAuto

set_option linter.unusedVariables false
set_option linter.unusedSimpArgs false
namespace Go.Proofs.YtbmcmiggifknfaaDoor
open Go.RowKit Wi Dice
namespace Laws
open Det
set_option maxHeartbeats 8000000 in
set_option maxRecDepth 100000 in
theorem detectorStream_walk (a0 : Option Addr) (len0 cap0 : Nat) (z0 : List Int) (w : World) (hcl : Cl w) (w0 : Buf.IsRow .i64 w a0 len0 cap0 z0) :
    Calls Tryd.prog 3 #[.slice a0 len0 cap0] w fun e w' => e = .returned (.bool true) ∧ Below w.heap.size w w' := by
  have HC := Lib.hid hcl
  by_cases hs : ¬ len0 ≤ 500
  · have hd : decide ((len0 : Int) ≤ 500) = false := by simp; omega
    have SN := Lib.hid (sane_any hcl)
    go_enter Tryd.func3, Tryd.ntmps3
    go_wp2_with (first | (go_at_call 7; refine (light_any _ _ _ _).mono ?_; rintro e w1 ⟨rfl, rfl⟩; rw [hd]) | (go_at_call 8; with_reducible refine SN.out.mono ?_; rintro e w2 ⟨rfl, hc⟩))
    go_ret
    exact ⟨rfl, hc⟩
  replace hs : len0 ≤ 500 := by omega
  have hd : decide ((len0 : Int) ≤ 500) = true := by simp; omega
  go_enter Tryd.func3, Tryd.ntmps3
  go_upto_region 4 with (first | (go_at_call 7; refine (light_any _ _ _ _).mono ?_; rintro e w1 ⟨rfl, rfl⟩; rw [hd]) | (go_at_call 9; refine (roll_any a0 len0 cap0 z0 _ w0 hs).mono ?_; rintro e w2 ⟨rfl, hdi⟩))
  have hdl := hdi.lt
  go_wp2_with fail
  refine (detector_any hdi).mono ?_
  rintro e w3 ⟨⟨S, L, ON, OFF, rfl, dg, hL⟩, hl⟩
  replace dg := Lib.hid dg
  have D3 := Lib.hid hl
  clear hl
  go_wp2_with fail
  refine (wave_small 60 (by decide) (by decide) D3.out.di).mono ?_
  rintro e w4 ⟨⟨xv, x, rfl, hox, hin, hx1, hx60⟩, hl⟩
  have D4 := Lib.hid hl.di
  have h3 := D3.out.far.size
  have h4 := hl.far.size
  have SX := Lib.hid (sv_own hox)
  obtain ⟨b, c, rfl, hb3⟩ : ∃ b c, xv = .slice (some ⟨b, 0, none⟩) x.length c ∧ w3.heap.size ≤ b := by
    rcases hox with ⟨_, h⟩ | ⟨b, c, h, hb⟩
    · have := congrArg List.length h; rw [ints_len] at this; simp only [List.length_nil] at this; omega
    · rw [ints_len] at h; exact ⟨b, c, h, hb.base⟩
  have hb4 : b < w4.heap.size := by
    obtain ⟨_, _, e, _, _, h⟩ := SX.out
    cases e
    obtain ⟨_, _, e, h, _⟩ := h (by omega)
    cases e; exact h
  clear hl hox
  go_upto_region 5 with fail
  obtain ⟨w5, hw5⟩ : ∃ w5, w5 = w4.alloc (.cells #[.int .i64 S, .int .i64 L, .int .i64 ON, .int .i64 OFF] 28) := ⟨_, rfl⟩
  have hb5 : Below w4.heap.size w4 w5 := by rw [hw5]; exact new_block _
  have s5 : w5.heap.size = w4.heap.size + 1 := by rw [hw5]; simp
  obtain ⟨p4, hp4⟩ : ∃ p, p = w4.heap.size := ⟨_, rfl⟩
  have KA := Lib.hid (show w5.heap[p4]? = some (.cells #[.int .i64 S, .int .i64 L, .int .i64 ON, .int .i64 OFF] 28 (0, 0)) by rw [hw5, hp4]; exact heap_alloc_new w4 _)
  rw [← hw5, ← hp4]
  replace SX := Lib.hid (SX.out.below hb5)
  replace D4 := Lib.hid (D4.out.below hb5)
  have CL5 := Lib.hid (hbk D4.out.bel HC.out)
  have ST := Lib.hid (start_any dg.out CL5.out)
  have e4 : w4.heap.size ≤ p4 ∧ p4 < w5.heap.size := by omega
  clear hw5 hb5 hp4 D3
  obtain ⟨q0, q1, q2, q3⟩ := c4 KA.out
  go_upto_region 6 with (go_at_call 12; with_reducible refine ST.out.mono ?_; rintro e w6 ⟨rfl, hb6⟩)
  obtain ⟨wS, hwS⟩ : ∃ wS, wS = w6.alloc (.cells #[.int .i64 S, .int .i64 L, .int .i64 ON, .int .i64 OFF, .slice none 0 0, .int .i64 0, .int .i64 (-1), .int .i64 0, .int .i64 0] 34) := ⟨_, rfl⟩
  have hbS : Below w6.heap.size w6 wS := by rw [hwS]; exact new_block _
  have sS : wS.heap.size = w6.heap.size + 1 := by rw [hwS]; simp
  obtain ⟨p6, hp6⟩ : ∃ p, p = w6.heap.size := ⟨_, rfl⟩
  have K6 := Lib.hid (show wS.heap[p6]? = some (.cells #[.int .i64 S, .int .i64 L, .int .i64 ON, .int .i64 OFF, .slice none 0 0, .int .i64 0, .int .i64 (-1), .int .i64 0, .int .i64 0] 34 (0, 0)) by rw [hwS, hp6]; exact heap_alloc_new w6 _)
  rw [← hwS, ← hp6]
  have bS := Buf.then_ hb6 hbS
  have s6 := hb6.size
  replace SX := Lib.hid (SX.out.below bS)
  replace D4 := Lib.hid (D4.out.below bS)
  replace KA := Lib.hid (hbk bS KA.out)
  replace CL5 := Lib.hid (hbk bS CL5.out)
  clear hwS hbS hb6 bS ST q0 q1 q2 q3
  generalize hxl : x.length = N at *
  replace hxl := Lib.hid hxl
  have X0 : Hid (∀ j, j < N → -1073741823 ≤ fn x j ∧ fn x j ≤ 1073741823) := Lib.hid fun j hj => by have := hin j (by rw [hxl.out]; exact hj); omega
  clear hin
  have s1 := dg.out.s1
  have sl := dg.out.sl
  simp only at s1 sl
  have NUM : Hid (w1.heap.size < p4 ∧ p4 < p6 ∧ p6 < wS.heap.size ∧ w1.heap.size < b ∧ b < p4 ∧ w1.heap.size < wS.heap.size ∧ 0 < w1.heap.size) := Lib.hid (by
    have := (Array.getElem?_eq_some_iff.1 HC.out).1
    omega)
  have F0 : Hid (DL w1 wS wS w1.heap.size a0 len0 cap0 z0 p6 S L ON OFF (ab (fn x)) 0 (.slice none 0 0)) := Lib.hid ⟨Nat.le_refl _, fun _ _ _ _ => rfl, D4.out, World.ownsRow_nil _ _ _ _, ⟨none, 0, K6.out, ⟨none, 0, rfl, Nat.le_refl _, by decide, fun h => absurd h (by simp [kept])⟩, fun b h => by cases h⟩⟩
  clear D4 K6 h3 h4 hb3 hb4 s5 s6 sS e4 hp6 hdl hdi w0
  go_wp2_with fail
  go_loopw [8, 9] (fun v8 v9 wr => ∃ n : Nat, n ≤ N ∧ v9 = .int .i64 n ∧ Hid (DL w1 wS wr w1.heap.size a0 len0 cap0 z0 p6 S L ON OFF (ab (fn x)) n v8)) (fun _ v _ => N - (intOf v).toNat)
  case atStart => exact ⟨0, by omega, rfl, F0⟩
  case round =>
    clear F0
    obtain ⟨n, hn, rfl, HF⟩ := hrel
    obtain ⟨oa, om, oc, rfl, hom⟩ := own_letter HF.out.own
    by_cases hlt : n < N
    · have hlt' : (n : Int) < (N : Int) := by omega
      go_wp2_with fail
      refine (next_any 9 HF.out.di (by omega) (by omega)).mono ?_
      rintro e wk ⟨⟨k, rfl, k0, k1⟩, hl⟩
      replace HF := Lib.hid (HF.out.left NUM.out.2.2.2.2.2.1 (by have := NUM.out; omega) hl)
      clear hl
      obtain ⟨q, hq⟩ : ∃ q : Nat, min ((n : Int) + 1 + k) (N : Int) = (q : Int) := ⟨(min ((n : Int) + 1 + k) (N : Int)).toNat, by omega⟩
      have hnq : n < q := by omega
      have hqN : q ≤ N := by omega
      obtain ⟨pa, pc, P6, S6, b6⟩ := HF.out.feed
      obtain ⟨se, hse⟩ := scn_pre ⟨S, L, ON, OFF⟩ (ab (fn x)) (show S ≤ L by omega) (show 1 ≤ L by omega) (show n ≤ q by omega)
      have SXr := Lib.hid (HF.out.old SX.out (fun k hk => by have e : b = k := (by simpa [Value.ownBlock] using hk); have := NUM.out; omega))
      have CLr := Lib.hid (hbk HF.out.di.bel HC.out)
      have hqxc := Lib.hid (show q ≤ c by obtain ⟨_, _, e, h1, _⟩ := SXr.out; cases e; omega)
      have hple := Lib.hid (show n ≤ q by omega)
      have PN := Lib.hid fun w' (hb : Below wk.heap.size wk w') ya yc (h : SV w' (.slice ya (q - n) yc) (q - n) (fun j => fn x (n + j))) => push_round dg.out (show N ≤ 1000 by omega) X0.out (S6.below hb) (hbk hb CLr.out) hnq hqN hse h hb.size
      replace hse := Lib.hid hse
      replace P6 := Lib.hid P6
      replace S6 := Lib.hid S6
      replace b6 := Lib.hid b6
      obtain ⟨on, off, pk, hon, hoff, hpk⟩ : ∃ on off pk, (scn ⟨S, L, ON, OFF⟩ (ab (fn x)) n).2.on = on ∧ (scn ⟨S, L, ON, OFF⟩ (ab (fn x)) n).2.off = off ∧ (scn ⟨S, L, ON, OFF⟩ (ab (fn x)) n).2.pk = pk := ⟨_, _, _, rfl, rfl, rfl⟩
      obtain ⟨kn, hkn⟩ : ∃ kn, kept ⟨S, L, ON, OFF⟩ n = kn := ⟨_, rfl⟩
      rw [hon, hoff, hpk, hkn] at P6 PN
      replace hon := Lib.hid hon
      replace hoff := Lib.hid hoff
      replace hpk := Lib.hid hpk
      replace hkn := Lib.hid hkn
      go_upto_region 10 with fail
      try rw [hq]
      go_cut [11, 12, 13] (fun s11 s12 s13 wz => ∃ wx p11 na nc ra rm rc, wx = wz ∧ s11 = .pointer (some ⟨p11, 0, none⟩) ∧ s12 = .slice ra rm rc ∧ s13 = .int .i64 0 ∧ Hid (wk.heap.size ≤ p11) ∧ Hid (wx.heap[p11]? = some (.cells #[.int .i64 S, .int .i64 L, .int .i64 ON, .int .i64 OFF, .slice na (kept ⟨S, L, ON, OFF⟩ q) nc, .int .i64 (q : Int), .int .i64 (scn ⟨S, L, ON, OFF⟩ (ab (fn x)) q).2.on, .int .i64 (scn ⟨S, L, ON, OFF⟩ (ab (fn x)) q).2.off, .int .i64 (scn ⟨S, L, ON, OFF⟩ (ab (fn x)) q).2.pk] 34 (0, 0))) ∧ Hid (SV wx (.slice na (kept ⟨S, L, ON, OFF⟩ q) nc) (kept ⟨S, L, ON, OFF⟩ q) (fun j => ab (fn x) (q - kept ⟨S, L, ON, OFF⟩ q + j))) ∧ Hid (∀ b, Value.ownBlock (.slice na (kept ⟨S, L, ON, OFF⟩ q) nc) = some b → wk.heap.size ≤ b) ∧ Hid (PL wk.heap.size se (.slice ra rm rc) wx) ∧ Hid (Below wk.heap.size wk wx))
      case first =>
        refine wp_region_noPanic ?_
        refine wp_region_any (by kernel_rfl) ?_
        have hw0 : Below wk.heap.size wk wk.drew := (Below.refl _ _).drew
        refine Inv.wpAny_inv2 (fun k => k == 11 || k == 12 || k == 13) 8 9 [50, 51, 52, 53, 54, 55, 49, 56, 57, 58, 11] (fun w' => Below wk.heap.size wk w') (fun _ w1 w2 => Below w1.heap.size w1 w2) (fun k => ([fun v_ w_ => v_ = .agg #[.int .i64 S, .int .i64 L, .int .i64 ON, .int .i64 OFF, .slice pa kn pc, .int .i64 (n : Int), .int .i64 on, .int .i64 off, .int .i64 pk], fun v_ w_ => v_ = .slice (some ⟨b, 0, none⟩) N c, fun v_ w_ => v_ = .int .i64 n, fun v_ w_ => v_ = .int .i64 q, fun v_ w_ => ∃ ya yc, v_ = .slice ya (q - n) yc ∧ SV w_ (.slice ya (q - n) yc) (q - n) (fun j => fn x (n + j)), fun v_ w_ => PT wk.heap.size S L ON OFF (ab (fn x)) q se v_ w_, fun v_ w_ => PT wk.heap.size S L ON OFF (ab (fn x)) q se v_ w_, fun v_ w_ => PA wk.heap.size S L ON OFF (ab (fn x)) q v_ w_, fun v_ w_ => PL wk.heap.size se v_ w_, fun v_ w_ => v_ = .int .i64 0, fun v_ w_ => ∃ b, v_ = .pointer (some ⟨b, 0, none⟩) ∧ wk.heap.size ≤ b ∧ w_.heap[b]? = some (.cells #[.int .i64 0, .int .i64 0, .int .i64 0, .int .i64 0, .slice none 0 0, .int .i64 0, .int .i64 0, .int .i64 0, .int .i64 0] 34 (0, 0)), fun v_ w_ => True, fun v_ w_ => True, fun v_ w_ => True] : List (Value → World → Prop)).getD k (fun _ _ => True)) _ (fun σ => by simp only [Inv.putAll, List.foldl_cons, List.foldl_nil, Act.put, List.setIfInBounds_toArray, List.set_cons_zero, List.set_cons_succ]; rfl) (by kernel_rfl) (by kernel_rfl) (by decide) ?_ hw0 ?_ ?_ (fun b1 b2 => cond b1 (cond b2 3 4) (cond b2 4 5)) (fun b1 b2 => #[true, true, true, true, true, true, true, true, b1, b2, true, false, false, false]) (by intro b1 b2; cases b1 <;> cases b2 <;> kernel_rfl) (by intro b1 b2; cases b1 <;> cases b2 <;> kernel_rfl) (by exact ⟨rfl, rfl⟩) ?_
        · intro j k v w1 w2 hjk hv hr
          rcases k with _ | k
          · exact hv
          rcases k with _ | k
          · exact hv
          rcases k with _ | k
          · exact hv
          rcases k with _ | k
          · exact hv
          rcases k with _ | k
          · exact (by obtain ⟨x1, x2, h1, h2⟩ := hv; exact ⟨x1, x2, h1, h2.below hr⟩)
          rcases k with _ | k
          · exact hv.below hr
          rcases k with _ | k
          · exact hv.below hr
          rcases k with _ | k
          · exact hv.below hr
          rcases k with _ | k
          · exact hv.below hr
          rcases k with _ | k
          · exact hv
          rcases k with _ | k
          · exact (by obtain ⟨b, h1, h2, h3⟩ := hv; exact ⟨b, h1, h2, hbk hr h3⟩)
          rcases k with _ | k
          · exact hv
          rcases k with _ | k
          · exact hv
          rcases k with _ | k
          · exact hv
          · exact hv
        · intro k t hl hd
          rcases k with _ | k
          · exact absurd hl (by decide +kernel)
          rcases k with _ | k
          · exact absurd hl (by decide +kernel)
          rcases k with _ | k
          · exact absurd hl (by decide +kernel)
          rcases k with _ | k
          · exact absurd hl (by decide +kernel)
          rcases k with _ | k
          · exact absurd hl (by decide +kernel)
          rcases k with _ | k
          · exact absurd hl (by decide +kernel)
          rcases k with _ | k
          · exact absurd hl (by decide +kernel)
          rcases k with _ | k
          · exact absurd hl (by decide +kernel)
          rcases k with _ | k
          · exact absurd hl (by decide +kernel)
          rcases k with _ | k
          · exact absurd hl (by decide +kernel)
          rcases k with _ | k
          · exact absurd hl (by decide +kernel)
          rcases k with _ | k
          · exact absurd hl (by decide +kernel)
          rcases k with _ | k
          · exact absurd hl (by decide +kernel)
          rcases k with _ | k
          · exact absurd hl (by decide +kernel)
          · simp at hd
        · show Inv.Steps _ _ _ _ _ _ _ _ [0, 1, 2, 3, 4, 5, 6, 7, 8, 9, 10]
          refine Inv.Steps.go (by decide) (by rfl) (fun σ wx hw hd K hK => ?_) ?_
          · simp only [List.getElem_toArray, List.getElem_cons_zero, List.getElem_cons_succ, Act.put, List.setIfInBounds_toArray, List.set_cons_zero, List.set_cons_succ] at hK ⊢
            refine wp_load_row 34 (.tmp 6) rfl p6 rfl 34 #[.int .i64 S, .int .i64 L, .int .i64 ON, .int .i64 OFF, .slice pa kn pc, .int .i64 (n : Int), .int .i64 on, .int .i64 off, .int .i64 pk] (0, 0) _ (hbk hw P6.out) rfl rfl rfl ?_
            simp only [Act.put, List.setIfInBounds_toArray, List.set_cons_zero, List.set_cons_succ]
            exact hK.out _ _ hw (Below.refl _ _) (rfl)
          refine Inv.Steps.go (by decide) (by rfl) (fun σ wx hw hd K hK => ?_) ?_
          · simp only [List.getElem_toArray, List.getElem_cons_zero, List.getElem_cons_succ, Act.put, List.setIfInBounds_toArray, List.set_cons_zero, List.set_cons_succ] at hK ⊢
            go_simp
            exact hK.out _ _ hw (Below.refl _ _) (rfl)
          refine Inv.Steps.go (by decide) (by rfl) (fun σ wx hw hd K hK => ?_) ?_
          · simp only [List.getElem_toArray, List.getElem_cons_zero, List.getElem_cons_succ, Act.put, List.setIfInBounds_toArray, List.set_cons_zero, List.set_cons_succ] at hK ⊢
            go_simp
            exact hK.out _ _ hw (Below.refl _ _) (rfl)
          refine Inv.Steps.go (by decide) (by rfl) (fun σ wx hw hd K hK => ?_) ?_
          · simp only [List.getElem_toArray, List.getElem_cons_zero, List.getElem_cons_succ, Act.put, List.setIfInBounds_toArray, List.set_cons_zero, List.set_cons_succ] at hK ⊢
            go_simp
            exact hK.out _ _ hw (Below.refl _ _) (rfl)
          refine Inv.Steps.go (by decide) (by rfl) (fun σ wx hw hd K hK => ?_) ?_
          · obtain e51 : (σ 51) = .slice (some ⟨b, 0, none⟩) N c := hd 1 (some 51) (by kernel_rfl) (by rfl)
            obtain e52 : (σ 52) = .int .i64 n := hd 2 (some 52) (by kernel_rfl) (by rfl)
            obtain e53 : (σ 53) = .int .i64 q := hd 3 (some 53) (by kernel_rfl) (by rfl)
            simp only [List.getElem_toArray, List.getElem_cons_zero, List.getElem_cons_succ, Act.put, List.setIfInBounds_toArray, List.set_cons_zero, List.set_cons_succ, e51, e52, e53] at hK ⊢
            go_simp
            simp only [if_pos hqxc.out, if_pos hple.out]
            go_simp
            exact hK.out _ _ hw (Below.refl _ _) (⟨_, _, rfl, by have h := sv_mid (SXr.out.below hw) n q hple.out hqN; simp only [Option.map_some, Addr.add_lit, Nat.zero_add] at h; exact h⟩)
          refine Inv.Steps.go (by decide) (by rfl) (fun σ wx hw hd K hK => ?_) ?_
          · obtain e50 : (σ 50) = .agg #[.int .i64 S, .int .i64 L, .int .i64 ON, .int .i64 OFF, .slice pa kn pc, .int .i64 (n : Int), .int .i64 on, .int .i64 off, .int .i64 pk] := hd 0 (some 50) (by kernel_rfl) (by rfl)
            obtain ⟨ya, yc, e54, s54⟩ : ∃ ya yc, (σ 54) = .slice ya (q - n) yc ∧ SV wx (.slice ya (q - n) yc) (q - n) (fun j => fn x (n + j)) := hd 4 (some 54) (by kernel_rfl) (by rfl)
            simp only [List.getElem_toArray, List.getElem_cons_zero, List.getElem_cons_succ, Act.put, List.setIfInBounds_toArray, List.set_cons_zero, List.set_cons_succ, e50, e54] at hK ⊢
            go_simp
            go_at_call 14
            refine (PN.out wx hw _ _ s54).mono ?_
            rintro e w1 ⟨⟨v2, he, g1⟩, hb⟩
            subst he
            dsimp only
            exact hK.out _ _ (Buf.then_ hw hb) hb (g1)
          refine Inv.Steps.go (by decide) (by rfl) (fun σ wx hw hd K hK => ?_) ?_
          · obtain ⟨x55, y55, e55, t55, l55⟩ : PT wk.heap.size S L ON OFF (ab (fn x)) q se (σ 55) wx := hd 5 (some 55) (by kernel_rfl) (by rfl)
            simp only [List.getElem_toArray, List.getElem_cons_zero, List.getElem_cons_succ, Act.put, List.setIfInBounds_toArray, List.set_cons_zero, List.set_cons_succ, e55] at hK ⊢
            go_simp
            exact hK.out _ _ hw (Below.refl _ _) (⟨_, _, rfl, t55, l55⟩)
          refine Inv.Steps.go (by decide) (by rfl) (fun σ wx hw hd K hK => ?_) ?_
          · obtain ⟨x49, y49, e49, t49, l49⟩ : PT wk.heap.size S L ON OFF (ab (fn x)) q se (σ 49) wx := hd 6 (some 49) (by kernel_rfl) (by rfl)
            simp only [List.getElem_toArray, List.getElem_cons_zero, List.getElem_cons_succ, Act.put, List.setIfInBounds_toArray, List.set_cons_zero, List.set_cons_succ, e49] at hK ⊢
            go_simp
            exact hK.out _ _ hw (Below.refl _ _) (t49)
          refine Inv.Steps.go (by decide) (by rfl) (fun σ wx hw hd K hK => ?_) ?_
          · obtain ⟨x49, y49, e49, t49, l49⟩ : PT wk.heap.size S L ON OFF (ab (fn x)) q se (σ 49) wx := hd 6 (some 49) (by kernel_rfl) (by rfl)
            simp only [List.getElem_toArray, List.getElem_cons_zero, List.getElem_cons_succ, Act.put, List.setIfInBounds_toArray, List.set_cons_zero, List.set_cons_succ, e49] at hK ⊢
            go_simp
            exact hK.out _ _ hw (Below.refl _ _) (l49)
          refine Inv.Steps.go (by decide) (by rfl) (fun σ wx hw hd K hK => ?_) ?_
          · obtain ⟨x49, y49, e49, t49, l49⟩ : PT wk.heap.size S L ON OFF (ab (fn x)) q se (σ 49) wx := hd 6 (some 49) (by kernel_rfl) (by rfl)
            simp only [List.getElem_toArray, List.getElem_cons_zero, List.getElem_cons_succ, Act.put, List.setIfInBounds_toArray, List.set_cons_zero, List.set_cons_succ, e49] at hK ⊢
            go_simp
            exact hK.out _ _ hw (Below.refl _ _) (rfl)
          refine Inv.Steps.go (by decide) (by rfl) (fun σ wx hw hd K hK => ?_) ?_
          · simp only [List.getElem_toArray, List.getElem_cons_zero, List.getElem_cons_succ, Act.put, List.setIfInBounds_toArray, List.set_cons_zero, List.set_cons_succ] at hK ⊢
            have hsz := hw.size
            have hnew := heap_alloc_new wx (.cells #[.int .i64 0, .int .i64 0, .int .i64 0, .int .i64 0, .slice none 0 0, .int .i64 0, .int .i64 0, .int .i64 0, .int .i64 0] 34)
            go_simp
            exact hK.out _ _ (hw.alloc hsz _) (new_block _) (⟨wx.heap.size, rfl, hsz, hnew⟩)
          exact Inv.Steps.nil
        · intro b1 b2 σ wx hw hd
          cases b1
          · cases b2
            · obtain ⟨x49, y49, e49, t49, l49⟩ : PT wk.heap.size S L ON OFF (ab (fn x)) q se (σ 49) wx := hd 6 (some 49) (by kernel_rfl) (by decide) (by decide) (by rfl)
              obtain ⟨na, nc, e56, u56, t56, o56⟩ : PA wk.heap.size S L ON OFF (ab (fn x)) q (σ 56) wx := hd 7 (some 56) (by kernel_rfl) (by decide) (by decide) (by rfl)
              obtain ⟨p11, e11, b11, h11⟩ : ∃ b, (σ 11) = .pointer (some ⟨b, 0, none⟩) ∧ wk.heap.size ≤ b ∧ wx.heap[b]? = some (.cells #[.int .i64 0, .int .i64 0, .int .i64 0, .int .i64 0, .slice none 0 0, .int .i64 0, .int .i64 0, .int .i64 0, .int .i64 0] 34 (0, 0)) := hd 10 (some 11) (by kernel_rfl) (by decide) (by decide) (by rfl)
              obtain ⟨ra, rm, rc, e57, hrm⟩ := own_letter l49
              subst e57
              have l57 := l49
              simp only [e49, e56, e11]
              refine Inv.take (i := 8) (v := .slice ra rm rc) (by decide) rfl (by kernel_rfl) (by kernel_rfl) (by kernel_rfl) (fun _ _ _ h => h) (by rfl) (fun w' => ?_) ?_
              · simp only [List.getElem_toArray, List.getElem_cons_zero, List.getElem_cons_succ]
                go_simp
              try simp only [Act.put, List.setIfInBounds_toArray, List.set_cons_zero, List.set_cons_succ]
              refine Inv.take (i := 9) (v := .int .i64 0) (by decide) rfl (by kernel_rfl) (by kernel_rfl) (by kernel_rfl) (fun _ _ _ h => h) (by rfl) (fun w' => ?_) ?_
              · simp only [List.getElem_toArray, List.getElem_cons_zero, List.getElem_cons_succ]
                go_simp
              try simp only [Act.put, List.setIfInBounds_toArray, List.set_cons_zero, List.set_cons_succ]
              refine Inv.one (i := 11) (by decide) (by kernel_rfl) (by rfl) (fun K hK => ?_)
              simp only [List.getElem_toArray, List.getElem_cons_zero, List.getElem_cons_succ, Act.put, List.setIfInBounds_toArray, List.set_cons_zero, List.set_cons_succ] at hK ⊢
              refine wp_store_row 34 (.tmp 11) (.tmp 56) rfl p11 #[.int .i64 S, .int .i64 L, .int .i64 ON, .int .i64 OFF, .slice na (kept ⟨S, L, ON, OFF⟩ q) nc, .int .i64 (q : Int), .int .i64 (scn ⟨S, L, ON, OFF⟩ (ab (fn x)) q).2.on, .int .i64 (scn ⟨S, L, ON, OFF⟩ (ab (fn x)) q).2.off, .int .i64 (scn ⟨S, L, ON, OFF⟩ (ab (fn x)) q).2.pk] rfl rfl 34 #[.int .i64 0, .int .i64 0, .int .i64 0, .int .i64 0, .slice none 0 0, .int .i64 0, .int .i64 0, .int .i64 0, .int .i64 0] h11 rfl rfl (by simp [Value.oneCell']) ?_
              refine hK.out _ _ ?_
              clear hK K
              try simp only [Act.put, List.setIfInBounds_toArray, List.set_cons_zero, List.set_cons_succ]
              refine Inv.take (i := 12) (v := .slice ra rm rc) (by decide) rfl (by kernel_rfl) (by kernel_rfl) (by kernel_rfl) (fun _ _ _ h => h) (by rfl) (fun w' => ?_) ?_
              · simp only [List.getElem_toArray, List.getElem_cons_zero, List.getElem_cons_succ]
                go_simp
              try simp only [Act.put, List.setIfInBounds_toArray, List.set_cons_zero, List.set_cons_succ]
              refine Inv.take (i := 13) (v := .int .i64 0) (by decide) rfl (by kernel_rfl) (by kernel_rfl) (by kernel_rfl) (fun _ _ _ h => h) (by rfl) (fun w' => ?_) ?_
              · simp only [List.getElem_toArray, List.getElem_cons_zero, List.getElem_cons_succ]
                go_simp
              try simp only [Act.put, List.setIfInBounds_toArray, List.set_cons_zero, List.set_cons_succ]
              refine Inv.done (by kernel_rfl) (NoPanic.normal ?_)
              go_wp2_with fail
              go_meet
              exact ⟨_, p11, na, nc, ra, rm, rc, rfl, rfl, rfl, rfl, Lib.hid b11, Lib.hid (setRow_heap _ _ _ _ _ _ h11), Lib.hid (sv_put h11 u56 t56), Lib.hid o56, Lib.hid (pl_put h11 l57), Lib.hid (Mid.below_row hw _ _ b11)⟩
            · obtain ⟨x49, y49, e49, t49, l49⟩ : PT wk.heap.size S L ON OFF (ab (fn x)) q se (σ 49) wx := hd 6 (some 49) (by kernel_rfl) (by decide) (by decide) (by rfl)
              obtain ⟨na, nc, e56, u56, t56, o56⟩ : PA wk.heap.size S L ON OFF (ab (fn x)) q (σ 56) wx := hd 7 (some 56) (by kernel_rfl) (by decide) (by decide) (by rfl)
              obtain ⟨p11, e11, b11, h11⟩ : ∃ b, (σ 11) = .pointer (some ⟨b, 0, none⟩) ∧ wk.heap.size ≤ b ∧ wx.heap[b]? = some (.cells #[.int .i64 0, .int .i64 0, .int .i64 0, .int .i64 0, .slice none 0 0, .int .i64 0, .int .i64 0, .int .i64 0, .int .i64 0] 34 (0, 0)) := hd 10 (some 11) (by kernel_rfl) (by decide) (by decide) (by rfl)
              obtain ⟨ra, rm, rc, e57, hrm⟩ := own_letter l49
              subst e57
              have l57 := l49
              obtain e58 : (σ 58) = .int .i64 0 := hd 9 (some 58) (by kernel_rfl) (by decide) (by decide) (by rfl)
              simp only [e49, e56, e11, e58]
              refine Inv.take (i := 8) (v := .slice ra rm rc) (by decide) rfl (by kernel_rfl) (by kernel_rfl) (by kernel_rfl) (fun _ _ _ h => h) (by rfl) (fun w' => ?_) ?_
              · simp only [List.getElem_toArray, List.getElem_cons_zero, List.getElem_cons_succ]
                go_simp
              try simp only [Act.put, List.setIfInBounds_toArray, List.set_cons_zero, List.set_cons_succ]
              refine Inv.one (i := 11) (by decide) (by kernel_rfl) (by rfl) (fun K hK => ?_)
              simp only [List.getElem_toArray, List.getElem_cons_zero, List.getElem_cons_succ, Act.put, List.setIfInBounds_toArray, List.set_cons_zero, List.set_cons_succ] at hK ⊢
              refine wp_store_row 34 (.tmp 11) (.tmp 56) rfl p11 #[.int .i64 S, .int .i64 L, .int .i64 ON, .int .i64 OFF, .slice na (kept ⟨S, L, ON, OFF⟩ q) nc, .int .i64 (q : Int), .int .i64 (scn ⟨S, L, ON, OFF⟩ (ab (fn x)) q).2.on, .int .i64 (scn ⟨S, L, ON, OFF⟩ (ab (fn x)) q).2.off, .int .i64 (scn ⟨S, L, ON, OFF⟩ (ab (fn x)) q).2.pk] rfl rfl 34 #[.int .i64 0, .int .i64 0, .int .i64 0, .int .i64 0, .slice none 0 0, .int .i64 0, .int .i64 0, .int .i64 0, .int .i64 0] h11 rfl rfl (by simp [Value.oneCell']) ?_
              refine hK.out _ _ ?_
              clear hK K
              try simp only [Act.put, List.setIfInBounds_toArray, List.set_cons_zero, List.set_cons_succ]
              refine Inv.take (i := 12) (v := .slice ra rm rc) (by decide) rfl (by kernel_rfl) (by kernel_rfl) (by kernel_rfl) (fun _ _ _ h => h) (by rfl) (fun w' => ?_) ?_
              · simp only [List.getElem_toArray, List.getElem_cons_zero, List.getElem_cons_succ]
                go_simp
              try simp only [Act.put, List.setIfInBounds_toArray, List.set_cons_zero, List.set_cons_succ]
              refine Inv.take (i := 13) (v := .int .i64 0) (by decide) rfl (by kernel_rfl) (by kernel_rfl) (by kernel_rfl) (fun _ _ _ h => h) (by rfl) (fun w' => ?_) ?_
              · simp only [List.getElem_toArray, List.getElem_cons_zero, List.getElem_cons_succ]
                go_simp
              try simp only [Act.put, List.setIfInBounds_toArray, List.set_cons_zero, List.set_cons_succ]
              refine Inv.done (by kernel_rfl) (NoPanic.normal ?_)
              go_wp2_with fail
              go_meet
              exact ⟨_, p11, na, nc, ra, rm, rc, rfl, rfl, rfl, rfl, Lib.hid b11, Lib.hid (setRow_heap _ _ _ _ _ _ h11), Lib.hid (sv_put h11 u56 t56), Lib.hid o56, Lib.hid (pl_put h11 l57), Lib.hid (Mid.below_row hw _ _ b11)⟩
          · cases b2
            · obtain ⟨x49, y49, e49, t49, l49⟩ : PT wk.heap.size S L ON OFF (ab (fn x)) q se (σ 49) wx := hd 6 (some 49) (by kernel_rfl) (by decide) (by decide) (by rfl)
              obtain ⟨na, nc, e56, u56, t56, o56⟩ : PA wk.heap.size S L ON OFF (ab (fn x)) q (σ 56) wx := hd 7 (some 56) (by kernel_rfl) (by decide) (by decide) (by rfl)
              obtain ⟨p11, e11, b11, h11⟩ : ∃ b, (σ 11) = .pointer (some ⟨b, 0, none⟩) ∧ wk.heap.size ≤ b ∧ wx.heap[b]? = some (.cells #[.int .i64 0, .int .i64 0, .int .i64 0, .int .i64 0, .slice none 0 0, .int .i64 0, .int .i64 0, .int .i64 0, .int .i64 0] 34 (0, 0)) := hd 10 (some 11) (by kernel_rfl) (by decide) (by decide) (by rfl)
              obtain l57 : PL wk.heap.size se (σ 57) wx := hd 8 (some 57) (by kernel_rfl) (by decide) (by decide) (by rfl)
              obtain ⟨ra, rm, rc, e57, hrm⟩ := own_letter l57
              rw [e57] at l57
              simp only [e49, e56, e11, e57]
              refine Inv.take (i := 9) (v := .int .i64 0) (by decide) rfl (by kernel_rfl) (by kernel_rfl) (by kernel_rfl) (fun _ _ _ h => h) (by rfl) (fun w' => ?_) ?_
              · simp only [List.getElem_toArray, List.getElem_cons_zero, List.getElem_cons_succ]
                go_simp
              try simp only [Act.put, List.setIfInBounds_toArray, List.set_cons_zero, List.set_cons_succ]
              refine Inv.one (i := 11) (by decide) (by kernel_rfl) (by rfl) (fun K hK => ?_)
              simp only [List.getElem_toArray, List.getElem_cons_zero, List.getElem_cons_succ, Act.put, List.setIfInBounds_toArray, List.set_cons_zero, List.set_cons_succ] at hK ⊢
              refine wp_store_row 34 (.tmp 11) (.tmp 56) rfl p11 #[.int .i64 S, .int .i64 L, .int .i64 ON, .int .i64 OFF, .slice na (kept ⟨S, L, ON, OFF⟩ q) nc, .int .i64 (q : Int), .int .i64 (scn ⟨S, L, ON, OFF⟩ (ab (fn x)) q).2.on, .int .i64 (scn ⟨S, L, ON, OFF⟩ (ab (fn x)) q).2.off, .int .i64 (scn ⟨S, L, ON, OFF⟩ (ab (fn x)) q).2.pk] rfl rfl 34 #[.int .i64 0, .int .i64 0, .int .i64 0, .int .i64 0, .slice none 0 0, .int .i64 0, .int .i64 0, .int .i64 0, .int .i64 0] h11 rfl rfl (by simp [Value.oneCell']) ?_
              refine hK.out _ _ ?_
              clear hK K
              try simp only [Act.put, List.setIfInBounds_toArray, List.set_cons_zero, List.set_cons_succ]
              refine Inv.take (i := 12) (v := .slice ra rm rc) (by decide) rfl (by kernel_rfl) (by kernel_rfl) (by kernel_rfl) (fun _ _ _ h => h) (by rfl) (fun w' => ?_) ?_
              · simp only [List.getElem_toArray, List.getElem_cons_zero, List.getElem_cons_succ]
                go_simp
              try simp only [Act.put, List.setIfInBounds_toArray, List.set_cons_zero, List.set_cons_succ]
              refine Inv.take (i := 13) (v := .int .i64 0) (by decide) rfl (by kernel_rfl) (by kernel_rfl) (by kernel_rfl) (fun _ _ _ h => h) (by rfl) (fun w' => ?_) ?_
              · simp only [List.getElem_toArray, List.getElem_cons_zero, List.getElem_cons_succ]
                go_simp
              try simp only [Act.put, List.setIfInBounds_toArray, List.set_cons_zero, List.set_cons_succ]
              refine Inv.done (by kernel_rfl) (NoPanic.normal ?_)
              go_wp2_with fail
              go_meet
              exact ⟨_, p11, na, nc, ra, rm, rc, rfl, rfl, rfl, rfl, Lib.hid b11, Lib.hid (setRow_heap _ _ _ _ _ _ h11), Lib.hid (sv_put h11 u56 t56), Lib.hid o56, Lib.hid (pl_put h11 l57), Lib.hid (Mid.below_row hw _ _ b11)⟩
            · obtain ⟨x49, y49, e49, t49, l49⟩ : PT wk.heap.size S L ON OFF (ab (fn x)) q se (σ 49) wx := hd 6 (some 49) (by kernel_rfl) (by decide) (by decide) (by rfl)
              obtain ⟨na, nc, e56, u56, t56, o56⟩ : PA wk.heap.size S L ON OFF (ab (fn x)) q (σ 56) wx := hd 7 (some 56) (by kernel_rfl) (by decide) (by decide) (by rfl)
              obtain ⟨p11, e11, b11, h11⟩ : ∃ b, (σ 11) = .pointer (some ⟨b, 0, none⟩) ∧ wk.heap.size ≤ b ∧ wx.heap[b]? = some (.cells #[.int .i64 0, .int .i64 0, .int .i64 0, .int .i64 0, .slice none 0 0, .int .i64 0, .int .i64 0, .int .i64 0, .int .i64 0] 34 (0, 0)) := hd 10 (some 11) (by kernel_rfl) (by decide) (by decide) (by rfl)
              obtain l57 : PL wk.heap.size se (σ 57) wx := hd 8 (some 57) (by kernel_rfl) (by decide) (by decide) (by rfl)
              obtain ⟨ra, rm, rc, e57, hrm⟩ := own_letter l57
              rw [e57] at l57
              obtain e58 : (σ 58) = .int .i64 0 := hd 9 (some 58) (by kernel_rfl) (by decide) (by decide) (by rfl)
              simp only [e49, e56, e11, e57, e58]
              refine Inv.one (i := 11) (by decide) (by kernel_rfl) (by rfl) (fun K hK => ?_)
              simp only [List.getElem_toArray, List.getElem_cons_zero, List.getElem_cons_succ, Act.put, List.setIfInBounds_toArray, List.set_cons_zero, List.set_cons_succ] at hK ⊢
              refine wp_store_row 34 (.tmp 11) (.tmp 56) rfl p11 #[.int .i64 S, .int .i64 L, .int .i64 ON, .int .i64 OFF, .slice na (kept ⟨S, L, ON, OFF⟩ q) nc, .int .i64 (q : Int), .int .i64 (scn ⟨S, L, ON, OFF⟩ (ab (fn x)) q).2.on, .int .i64 (scn ⟨S, L, ON, OFF⟩ (ab (fn x)) q).2.off, .int .i64 (scn ⟨S, L, ON, OFF⟩ (ab (fn x)) q).2.pk] rfl rfl 34 #[.int .i64 0, .int .i64 0, .int .i64 0, .int .i64 0, .slice none 0 0, .int .i64 0, .int .i64 0, .int .i64 0, .int .i64 0] h11 rfl rfl (by simp [Value.oneCell']) ?_
              refine hK.out _ _ ?_
              clear hK K
              try simp only [Act.put, List.setIfInBounds_toArray, List.set_cons_zero, List.set_cons_succ]
              refine Inv.take (i := 12) (v := .slice ra rm rc) (by decide) rfl (by kernel_rfl) (by kernel_rfl) (by kernel_rfl) (fun _ _ _ h => h) (by rfl) (fun w' => ?_) ?_
              · simp only [List.getElem_toArray, List.getElem_cons_zero, List.getElem_cons_succ]
                go_simp
              try simp only [Act.put, List.setIfInBounds_toArray, List.set_cons_zero, List.set_cons_succ]
              refine Inv.take (i := 13) (v := .int .i64 0) (by decide) rfl (by kernel_rfl) (by kernel_rfl) (by kernel_rfl) (fun _ _ _ h => h) (by rfl) (fun w' => ?_) ?_
              · simp only [List.getElem_toArray, List.getElem_cons_zero, List.getElem_cons_succ]
                go_simp
              try simp only [Act.put, List.setIfInBounds_toArray, List.set_cons_zero, List.set_cons_succ]
              refine Inv.done (by kernel_rfl) (NoPanic.normal ?_)
              go_wp2_with fail
              go_meet
              exact ⟨_, p11, na, nc, ra, rm, rc, rfl, rfl, rfl, rfl, Lib.hid b11, Lib.hid (setRow_heap _ _ _ _ _ _ h11), Lib.hid (sv_put h11 u56 t56), Lib.hid o56, Lib.hid (pl_put h11 l57), Lib.hid (Mid.below_row hw _ _ b11)⟩
      case rest =>
        obtain ⟨wx, p11, na, nc, ra, rm, rc, ewx, rfl, rfl, rfl, B11, K11, SN, ON11, RL, BX⟩ := hcut
        subst ewx
        have HD := Lib.hid (HF.out.below BX.out)
        have HSK := Lib.hid (show wS.heap.size ≤ wk.heap.size from HF.out.size)
        have CLx := Lib.hid (hbk BX.out CLr.out)
        have hob := Lib.hid (show ∀ k, (Value.slice oa om oc).ownBlock = some k → wS.heap.size ≤ k ∧ k < wk.heap.size from fun k hk => HF.out.own.lt k hk)
        have hV : Hid (∀ j, j < N → 0 ≤ ab (fn x) j ∧ ab (fn x) j ≤ 1073741823) := Lib.hid fun j hj => by have := X0.out j hj; unfold ab; omega
        have GW := Lib.hid (wg_at ⟨S, L, ON, OFF⟩ (ab (fn x)) N q hV.out (by omega) (by omega) (by show 1 ≤ L; omega))
        have RW := Lib.hid fun w' (hb : Below wx.heap.size wx w') => refwatch_any dg.out (SN.out.below hb) GW.out (hbk hb CLx.out)
        obtain ⟨kq, hkq⟩ : ∃ kq, kept ⟨S, L, ON, OFF⟩ q = kq := ⟨_, rfl⟩
        obtain ⟨oq, hoq⟩ : ∃ oq, (scn ⟨S, L, ON, OFF⟩ (ab (fn x)) q).2 = oq := ⟨_, rfl⟩
        rw [hkq, hoq] at K11 RW
        rw [hkq] at SN ON11
        replace hkq := Lib.hid hkq
        replace hoq := Lib.hid hoq
        clear PN S6 b6 P6 HF hV GW CLx CLr
        obtain ⟨oon, ooff, opk⟩ := oq
        simp only at K11 RW
        go_upto_region 13 with (first
          | ((with_reducible refine Mid.ldrg 34 (.tmp 11) p11 34 #[.int .i64 S, .int .i64 L, .int .i64 ON, .int .i64 OFF, .slice na kq nc, .int .i64 (q : Int), .int .i64 oon, .int .i64 ooff, .int .i64 opk] K11.out ?_ ?_ ?_ ?_ ?_ ?_); (· rfl); (· first | rfl | simp [Region.wanted, yielded]); (· first | rfl | simp [Act.eval]); (· exact ⟨_, rfl, rfl⟩); (· kernel_rfl))
          | (go_at_call 15; with_reducible refine (RW.out _ (Below.refl _ _)).mono ?_; rintro e wy ⟨rfl, hby⟩))
        replace HD := Lib.hid ((HD.out.below hby).below (Below.refl _ wy).drew)
        replace K11 := Lib.hid (hbk (Below.refl _ wy).drew (hbk hby K11.out))
        replace SN := Lib.hid ((SN.out.below hby).below (Below.refl _ wy).drew)
        replace RL := Lib.hid ((RL.out.below hby).below (Below.refl _ wy).drew)
        obtain ⟨pa', pc', P6d, -, -⟩ := HD.out.feed
        replace P6d := Lib.hid P6d
        have hSk := Lib.hid (show wS.heap.size ≤ wk.heap.size ∧ wk.heap.size ≤ wx.heap.size ∧ wx.heap.size ≤ wy.drew.heap.size from by
          exact ⟨HSK.out, BX.out.size, hby.size⟩)
        have RND := Lib.hid fun (v' : Value) (w' : World) (own' : w'.ownsRow wS.heap.size 32 3 v' ((scn ⟨S, L, ON, OFF⟩ (ab (fn x)) n).1.length + se.length) (row ((scn ⟨S, L, ON, OFF⟩ (ab (fn x)) n).1 ++ se))) (hg : wy.drew.grownBy w' (Value.ownBlock (.slice oa om oc))) => (by
          have h := HD.out.round own' hg hse.out hSk.out.1 (fun k hk => (hob.out k hk).2) (by rw [hkq.out]; exact SN.out) (by rw [hkq.out]; exact ON11.out) NUM.out.2.2.2.2.2.1 NUM.out.2.2.1 (by have := NUM.out; omega)
          rw [hkq.out, hoq.out] at h
          exact h : DL w1 wS (w'.setRow p6 #[.int .i64 S, .int .i64 L, .int .i64 ON, .int .i64 OFF, .slice na kq nc, .int .i64 (q : Int), .int .i64 oon, .int .i64 ooff, .int .i64 opk]) w1.heap.size a0 len0 cap0 z0 p6 S L ON OFF (ab (fn x)) q v')
        have h9 := Lib.hid (show (scn ⟨S, L, ON, OFF⟩ (ab (fn x)) n).1.length + se.length ≤ 1000000 from by
          have h := scn_len ⟨S, L, ON, OFF⟩ (ab (fn x)) q
          rw [hse.out, List.length_append] at h
          omega)
        have hszB := Lib.hid (show wS.heap.size ≤ wy.drew.heap.size from HD.out.size)
        have k11 := Lib.hid (show p11 < wy.drew.heap.size from (Array.getElem?_eq_some_iff.1 K11.out).1)
        have k6 := Lib.hid (show p6 < wy.drew.heap.size from (Array.getElem?_eq_some_iff.1 P6d.out).1)
        have n6 := Lib.hid (show ∀ k, (Value.slice oa om oc).ownBlock = some k → k ≠ p6 ∧ k ≠ p11 from fun k hk => by have := hob.out k hk; have := NUM.out; have := B11.out; omega)
        clear SN BX hby hkn hon hoff hpk
        refine wp_region_noPanic ?_
        refine wp_region_any (by kernel_rfl) ?_
        refine Inv.take (i := 1) (v := .slice oa om oc) (by decide) rfl (by kernel_rfl) (by kernel_rfl) (by kernel_rfl) (fun _ _ _ h => h) (by rfl) (fun w' => ?_) ?_
        · simp only [List.getElem_toArray, List.getElem_cons_zero, List.getElem_cons_succ]
          go_simp
        try simp only [Act.put, List.setIfInBounds_toArray, List.set_cons_zero, List.set_cons_succ]
        refine Inv.take (i := 2) (v := .slice ra rm rc) (by decide) rfl (by kernel_rfl) (by kernel_rfl) (by kernel_rfl) (fun _ _ _ h => h) (by rfl) (fun w' => ?_) ?_
        · simp only [List.getElem_toArray, List.getElem_cons_zero, List.getElem_cons_succ]
          go_simp
        try simp only [Act.put, List.setIfInBounds_toArray, List.set_cons_zero, List.set_cons_succ]
        refine Inv.take (i := 4) (v := .int .i64 q) (by decide) rfl (by kernel_rfl) (by kernel_rfl) (by kernel_rfl) (fun _ _ _ h => h) (by rfl) (fun w' => ?_) ?_
        · simp only [List.getElem_toArray, List.getElem_cons_zero, List.getElem_cons_succ]
          go_simp
        try simp only [Act.put, List.setIfInBounds_toArray, List.set_cons_zero, List.set_cons_succ]
        refine Inv.pair (i := 0) (k := 3) (by decide) (by decide) (by kernel_rfl) (by rfl) (by rfl) (fun K hK => ?_) (fun K hK => ?_)
        · simp only [List.getElem_toArray, List.getElem_cons_zero, List.getElem_cons_succ, Act.put, List.setIfInBounds_toArray, List.set_cons_zero, List.set_cons_succ] at hK ⊢
          refine wp_load_row 34 (.tmp 11) rfl p11 rfl 34 #[.int .i64 S, .int .i64 L, .int .i64 ON, .int .i64 OFF, .slice na kq nc, .int .i64 (q : Int), .int .i64 oon, .int .i64 ooff, .int .i64 opk] (0, 0) _ K11.out rfl rfl rfl ?_
          refine hK.out _ _ ?_
          clear hK K
          try simp only [Act.put, List.setIfInBounds_toArray, List.set_cons_zero, List.set_cons_succ]
          refine Inv.one (i := 3) (by decide) (by kernel_rfl) (by rfl) (fun K hK => ?_)
          simp only [List.getElem_toArray, List.getElem_cons_zero, List.getElem_cons_succ, Act.put, List.setIfInBounds_toArray, List.set_cons_zero, List.set_cons_succ] at hK ⊢
          refine wp_rows (.tmp 67) (.tmp 68) rfl (v := .slice oa om oc) (u := .slice ra rm rc) rfl rfl HD.out.own RL.out hszB.out h9.out ?_
          intro v' w' own' hg
          refine hK.out _ _ ?_
          clear hK K
          try simp only [Act.put, List.setIfInBounds_toArray, List.set_cons_zero, List.set_cons_succ]
          have P6w := (hg.block p6 k6.out (fun e => (n6.out p6 e.symm).1 rfl)).trans P6d.out
          refine Inv.one (i := 5) (by decide) (by kernel_rfl) (by rfl) (fun K hK => ?_)
          simp only [List.getElem_toArray, List.getElem_cons_zero, List.getElem_cons_succ, Act.put, List.setIfInBounds_toArray, List.set_cons_zero, List.set_cons_succ] at hK ⊢
          refine wp_store_row 34 (.tmp 6) (.tmp 66) rfl p6 #[.int .i64 S, .int .i64 L, .int .i64 ON, .int .i64 OFF, .slice na kq nc, .int .i64 (q : Int), .int .i64 oon, .int .i64 ooff, .int .i64 opk] rfl rfl 34 #[.int .i64 S, .int .i64 L, .int .i64 ON, .int .i64 OFF, .slice pa' (kept ⟨S, L, ON, OFF⟩ n) pc', .int .i64 (n : Int), .int .i64 (scn ⟨S, L, ON, OFF⟩ (ab (fn x)) n).2.on, .int .i64 (scn ⟨S, L, ON, OFF⟩ (ab (fn x)) n).2.off, .int .i64 (scn ⟨S, L, ON, OFF⟩ (ab (fn x)) n).2.pk] P6w rfl rfl (by simp [Value.oneCell']) ?_
          refine hK.out _ _ ?_
          clear hK K
          try simp only [Act.put, List.setIfInBounds_toArray, List.set_cons_zero, List.set_cons_succ]
          refine Inv.take (i := 6) (v := v') (by decide) rfl (by kernel_rfl) (by kernel_rfl) (by kernel_rfl) (fun _ _ _ h => h) (by rfl) (fun w' => ?_) ?_
          · simp only [List.getElem_toArray, List.getElem_cons_zero, List.getElem_cons_succ]
            go_simp
          try simp only [Act.put, List.setIfInBounds_toArray, List.set_cons_zero, List.set_cons_succ]
          refine Inv.take (i := 7) (v := .int .i64 q) (by decide) rfl (by kernel_rfl) (by kernel_rfl) (by kernel_rfl) (fun _ _ _ h => h) (by rfl) (fun w' => ?_) ?_
          · simp only [List.getElem_toArray, List.getElem_cons_zero, List.getElem_cons_succ]
            go_simp
          try simp only [Act.put, List.setIfInBounds_toArray, List.set_cons_zero, List.set_cons_succ]
          refine Inv.done (by kernel_rfl) (NoPanic.normal ?_)
          have RD := Lib.hid (RND.out _ _ own' hg)
          clear own' hg P6w
          go_wp2_with fail
          go_roundw
          case rel => exact ⟨q, hqN, rfl, RD⟩
          case measure => simp [intOf]; omega
        · simp only [List.getElem_toArray, List.getElem_cons_zero, List.getElem_cons_succ, Act.put, List.setIfInBounds_toArray, List.set_cons_zero, List.set_cons_succ] at hK ⊢
          refine wp_rows (.tmp 67) (.tmp 68) rfl (v := .slice oa om oc) (u := .slice ra rm rc) rfl rfl HD.out.own RL.out hszB.out h9.out ?_
          intro v' w' own' hg
          refine hK.out _ _ ?_
          clear hK K
          try simp only [Act.put, List.setIfInBounds_toArray, List.set_cons_zero, List.set_cons_succ]
          have K11w := (hg.block p11 k11.out (fun e => (n6.out p11 e.symm).2 rfl)).trans K11.out
          refine Inv.one (i := 0) (by decide) (by kernel_rfl) (by rfl) (fun K hK => ?_)
          simp only [List.getElem_toArray, List.getElem_cons_zero, List.getElem_cons_succ, Act.put, List.setIfInBounds_toArray, List.set_cons_zero, List.set_cons_succ] at hK ⊢
          refine wp_load_row 34 (.tmp 11) rfl p11 rfl 34 #[.int .i64 S, .int .i64 L, .int .i64 ON, .int .i64 OFF, .slice na kq nc, .int .i64 (q : Int), .int .i64 oon, .int .i64 ooff, .int .i64 opk] (0, 0) _ K11w rfl rfl rfl ?_
          refine hK.out _ _ ?_
          clear hK K
          try simp only [Act.put, List.setIfInBounds_toArray, List.set_cons_zero, List.set_cons_succ]
          have P6w := (hg.block p6 k6.out (fun e => (n6.out p6 e.symm).1 rfl)).trans P6d.out
          refine Inv.one (i := 5) (by decide) (by kernel_rfl) (by rfl) (fun K hK => ?_)
          simp only [List.getElem_toArray, List.getElem_cons_zero, List.getElem_cons_succ, Act.put, List.setIfInBounds_toArray, List.set_cons_zero, List.set_cons_succ] at hK ⊢
          refine wp_store_row 34 (.tmp 6) (.tmp 66) rfl p6 #[.int .i64 S, .int .i64 L, .int .i64 ON, .int .i64 OFF, .slice na kq nc, .int .i64 (q : Int), .int .i64 oon, .int .i64 ooff, .int .i64 opk] rfl rfl 34 #[.int .i64 S, .int .i64 L, .int .i64 ON, .int .i64 OFF, .slice pa' (kept ⟨S, L, ON, OFF⟩ n) pc', .int .i64 (n : Int), .int .i64 (scn ⟨S, L, ON, OFF⟩ (ab (fn x)) n).2.on, .int .i64 (scn ⟨S, L, ON, OFF⟩ (ab (fn x)) n).2.off, .int .i64 (scn ⟨S, L, ON, OFF⟩ (ab (fn x)) n).2.pk] P6w rfl rfl (by simp [Value.oneCell']) ?_
          refine hK.out _ _ ?_
          clear hK K
          try simp only [Act.put, List.setIfInBounds_toArray, List.set_cons_zero, List.set_cons_succ]
          refine Inv.take (i := 6) (v := v') (by decide) rfl (by kernel_rfl) (by kernel_rfl) (by kernel_rfl) (fun _ _ _ h => h) (by rfl) (fun w' => ?_) ?_
          · simp only [List.getElem_toArray, List.getElem_cons_zero, List.getElem_cons_succ]
            go_simp
          try simp only [Act.put, List.setIfInBounds_toArray, List.set_cons_zero, List.set_cons_succ]
          refine Inv.take (i := 7) (v := .int .i64 q) (by decide) rfl (by kernel_rfl) (by kernel_rfl) (by kernel_rfl) (fun _ _ _ h => h) (by rfl) (fun w' => ?_) ?_
          · simp only [List.getElem_toArray, List.getElem_cons_zero, List.getElem_cons_succ]
            go_simp
          try simp only [Act.put, List.setIfInBounds_toArray, List.set_cons_zero, List.set_cons_succ]
          refine Inv.done (by kernel_rfl) (NoPanic.normal ?_)
          have RD := Lib.hid (RND.out _ _ own' hg)
          clear own' hg P6w
          go_wp2_with fail
          go_roundw
          case rel => exact ⟨q, hqN, rfl, RD⟩
          case measure => simp [intOf]; omega
    · have hnN : n = N := by omega
      subst hnN
      obtain ⟨pa, pc, P6, S6, -⟩ := HF.out.feed
      have SXr := Lib.hid (HF.out.old SX.out (fun k hk => by have e : b = k := (by simpa [Value.ownBlock] using hk); have := NUM.out; omega))
      have CLr := Lib.hid (hbk HF.out.di.bel HC.out)
      have KAr := Lib.hid ((HF.out.keep p4 (by have := NUM.out; omega) (by have := NUM.out; omega) (by have := NUM.out; omega)).trans KA.out)
      have hV : Hid (∀ j, j < n → 0 ≤ ab (fn x) j ∧ ab (fn x) j ≤ 1073741823) := Lib.hid fun j hj => by have := X0.out j hj; unfold ab; omega
      have GW := Lib.hid (wg_at ⟨S, L, ON, OFF⟩ (ab (fn x)) n n hV.out (by omega) (by omega) (by show 1 ≤ L; omega))
      have hob := Lib.hid (show ∀ k, (Value.slice oa om oc).ownBlock = some k → wS.heap.size ≤ k ∧ k < wr.heap.size from fun k hk => HF.out.own.lt k hk)
      have WB := Lib.hid HF.out.di.bel
      have OWN := Lib.hid HF.out.own
      have FI := Lib.hid fun w' (hb : Below wr.heap.size wr w') => finish_any dg.out (S6.below hb) GW.out (hbk hb CLr.out)
      have hrl : runL ⟨S, L, ON, OFF⟩ (ab (fn x)) n = (scn ⟨S, L, ON, OFF⟩ (ab (fn x)) n).1 ++ if (scn ⟨S, L, ON, OFF⟩ (ab (fn x)) n).2.on < 0 then [] else [(scn ⟨S, L, ON, OFF⟩ (ab (fn x)) n).2] := rfl
      have hsl := scn_len ⟨S, L, ON, OFF⟩ (ab (fn x)) n
      obtain ⟨kq, hkq⟩ : ∃ kq, kept ⟨S, L, ON, OFF⟩ n = kq := ⟨_, rfl⟩
      obtain ⟨sq, hsq⟩ : ∃ sq, scn ⟨S, L, ON, OFF⟩ (ab (fn x)) n = sq := ⟨_, rfl⟩
      obtain ⟨rl, hrr⟩ : ∃ rl, runL ⟨S, L, ON, OFF⟩ (ab (fn x)) n = rl := ⟨_, rfl⟩
      have RN := fun w' (hb : Below wr.heap.size wr w') => run_any dg.out (SXr.out.below hb) (by omega) X0.out (hbk hb CLr.out)
      rw [hkq, hsq] at P6 FI
      rw [hrr] at RN
      rw [hsq] at OWN hrl hsl
      rw [hrr] at hrl
      replace RN := Lib.hid RN
      obtain ⟨e1, oon, ooff, opk⟩ := sq
      simp only at P6 FI OWN hrl hsl
      replace P6 := Lib.hid P6
      replace hrl := Lib.hid hrl
      have hB := Lib.hid HF.out.size
      clear hkq hsq hrr S6 GW hV SX KA HF hn hlt
      go_upto_region 15 with (first
        | ((with_reducible refine Mid.ldr 34 (.tmp 6) p6 34 #[.int .i64 S, .int .i64 L, .int .i64 ON, .int .i64 OFF, .slice pa kq pc, .int .i64 (n : Int), .int .i64 oon, .int .i64 ooff, .int .i64 opk] P6.out ?_ ?_ ?_ ?_ ?_ ?_); (· rfl); (· rfl); (· first | rfl | simp [Act.eval]); (· exact ⟨_, rfl, rfl⟩); (· kernel_rfl))
        | (go_at_call 16; with_reducible refine (FI.out _ (Below.refl _ _)).mono ?_; rintro e wf ⟨⟨qv, rfl, hq⟩, hbf⟩))
      obtain ⟨kl, hkl, QR, hk1⟩ := fin_row hq
      obtain ⟨qa, qm, qc, rfl, hqm⟩ := own_letter QR
      replace QR := Lib.hid QR
      rw [← hkl] at hrl
      clear hq hkl FI
      obtain ⟨q0, q1, q2, q3⟩ := c4 (hbk hbf KAr.out)
      go_upto_region 16 with (go_at_call 17; (with_reducible refine (RN.out _ hbf).mono ?_); rintro e wb ⟨⟨rv, rfl, RR⟩, hbb⟩)
      obtain ⟨va, vm, vc, rfl, hvm⟩ := own_letter RR
      replace OWN := Lib.hid (row_below (row_below OWN.out hbf) hbb)
      replace QR := Lib.hid (row_below QR.out hbb)
      have bw := Buf.then_ hbf hbb
      replace WB := Lib.hid (Buf.then_ WB.out bw)
      replace P6 := Lib.hid (hbk bw P6.out)
      have s1' := hbf.size
      have s2' := hbb.size
      obtain ⟨y0, y1, y2, y3, y4, y5, y6, y7, y8⟩ := c9 P6.out
      have h9 := Lib.hid (show e1.length + kl.length ≤ 1000000 from by omega)
      have hB2 := Lib.hid (show wS.heap.size ≤ wb.heap.size from by have := hB.out; omega)
      have AFT := Lib.hid fun (v' : Value) (wa : World) (own' : wa.ownsRow wS.heap.size 32 3 v' (e1.length + kl.length) (row (e1 ++ kl))) (hg : wb.grownBy wa (Value.ownBlock (.slice oa om oc))) => (by
        have hl : e1.length + kl.length = rl.length := by rw [hrl.out, List.length_append]
        rw [hl, ← hrl.out] at own'
        have R2 : wa.ownsRow wf.heap.size 32 3 (.slice va vm vc) rl.length (row rl) := own_kept RR fun k hk => hg.block k (RR.lt k hk).2 (fun e => by have := (hob.out k e.symm).2; have := (RR.lt k hk).1; omega)
        have bel : Below w1.heap.size w1 wa := WB.out.grown hg WB.out.size (fun k hk => by have := (hob.out k hk).1; have := NUM.out; omega)
        exact ⟨same_any (ts_of own') (ts_of R2) (by omega), bel⟩ : Calls Tryd.prog 18 #[v', .slice va vm vc] wa (fun e w' => e = .returned (.bool true) ∧ Below wa.heap.size wa w') ∧ Below w1.heap.size w1 wa)
      clear RR hbf hbb bw RN q0 q1 q2 q3
      go_wp2_with (first
        | ((with_reducible refine wpl_rows (.tmp 100) (.tmp 101) OWN.out QR.out hB2.out h9.out ?_ ?_ ?_ ?_ ?_); (· rfl); (· first | rfl | simp [Region.wanted, yielded]); (· first | rfl | simp [Act.eval]); (· first | rfl | simp [Act.eval]); (intro v' wa own' hg; obtain ⟨SM, BA⟩ := AFT.out v' wa own' hg; obtain ⟨xa, xm, xc, rfl, hxm⟩ := own_letter own'; replace SM := Lib.hid SM; clear own' hg))
        | (go_at_call 18; with_reducible refine SM.out.mono ?_; rintro e wd ⟨rfl, hbd⟩)
        | (go_at_call 8; refine (sane_any (hbk (Buf.then_ BA hbd) HC.out)).mono ?_; rintro e we ⟨rfl, hbe⟩))
      go_ret
      exact ⟨rfl, Buf.then_ (Buf.then_ BA hbd) hbe⟩
end Laws
end Go.Proofs.YtbmcmiggifknfaaDoor
