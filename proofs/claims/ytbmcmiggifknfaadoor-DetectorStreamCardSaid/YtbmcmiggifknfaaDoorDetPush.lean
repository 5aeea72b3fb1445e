/- Push. -/
import Derived.Test.YtbmcmiggifknfaaDoorDetZ
import Derived.Test.YtbmcmiggifknfaaDoorDetXT
import Derived.Lib.MinMax
import Derived.Deep.DeepCutAuto
set_option linter.unusedVariables false
set_option linter.unusedSimpArgs false
namespace Go.Proofs.YtbmcmiggifknfaaDoor
open Go.RowKit Wi Dice
namespace Det
theorem own_base {w : World} {B sz : Nat} {e : TypeId} {v : Value} {n : Nat} {xs : List Value} (h : w.ownsRow B e sz v n xs) {k : Nat} (hk : v.ownBlock = some k) : B ≤ k := by
  rcases h.2 with ⟨rfl, _⟩ | ⟨g, c, _, rfl, hB, _⟩
  · cases hk
  · simp only [Value.ownBlock, Option.some.injEq] at hk
    omega
theorem fn_app_lt {l r : List Int} {j : Nat} (h : j < l.length) : fn (l ++ r) j = fn l j := by
  simp [fn, List.getD_eq_getElem?_getD, List.getElem?_append_left h]
theorem fn_app_ge {l r : List Int} {j : Nat} (h : l.length ≤ j) : fn (l ++ r) j = fn r (j - l.length) := by
  simp [fn, List.getD_eq_getElem?_getD, List.getElem?_append_right h]
set_option maxHeartbeats 8000000 in
set_option maxRecDepth 100000 in
theorem push_any {w : World} {S L p cnt m : Nat} {ON OFF on off pk : Int} {pv u : Value} {U X : Nat → Int} (hd : DG ⟨S, L, ON, OFF⟩) (hx : SV w pv p U) (G : WG L p cnt on off pk U) (hcl : Cl w) (hu : SV w u m X) (hm0 : 0 < m) (hm : m ≤ 1000) (hX : ∀ j, j < m → -1073741823 ≤ X j ∧ X j ≤ 1073741823) (hpm : p + m ≤ 1000) (hcm : cnt + m ≤ 1000000) (hU : ∀ j, j < m → ab X j = U (p + j)) :
    Calls Tryd.prog 14 #[.agg #[.int .i64 S, .int .i64 L, .int .i64 ON, .int .i64 OFF, pv, .int .i64 (cnt : Int), .int .i64 on, .int .i64 off, .int .i64 pk], u] w fun e w' => (∃ v pn,
      e = .returned (.tuple #[.agg #[.int .i64 S, .int .i64 L, .int .i64 ON, .int .i64 OFF, pn, .int .i64 ((cnt + m : Nat) : Int), .int .i64 (scg ⟨S, L, ON, OFF⟩ U p (cnt - p) ⟨on, off, pk⟩ (p + m)).2.on, .int .i64 (scg ⟨S, L, ON, OFF⟩ U p (cnt - p) ⟨on, off, pk⟩ (p + m)).2.off, .int .i64 (scg ⟨S, L, ON, OFF⟩ U p (cnt - p) ⟨on, off, pk⟩ (p + m)).2.pk], v, .int .i64 0]) ∧
      w'.ownsRow w.heap.size 32 3 v (scg ⟨S, L, ON, OFF⟩ U p (cnt - p) ⟨on, off, pk⟩ (p + m)).1.length (row (scg ⟨S, L, ON, OFF⟩ U p (cnt - p) ⟨on, off, pk⟩ (p + m)).1) ∧
      SV w' pn (min (p + m) (L - 1)) (fun j => U (p + m - min (p + m) (L - 1) + j)) ∧ (∀ b, pn.ownBlock = some b → w.heap.size ≤ b) ∧ Ty w' pn) ∧ Below w.heap.size w w' := by
  have l9 := hd.l9
  have sl := hd.sl
  have ss := hd.s1
  simp only at l9 sl ss
  have p9 := G.p9
  have pcn := G.pc
  have hab : ∀ j, j < m → 0 ≤ ab X j ∧ ab X j ≤ 1073741823 := fun j hj => by have := hX j hj; unfold ab; omega
  have UV : Hid (∀ j, j < p + m → 0 ≤ U j ∧ U j ≤ 1073741823) := Lib.hid fun j hj => by
    by_cases h : j < p
    · exact G.vals j h
    · have := hU (j - p) (by omega)
      rw [show p + (j - p) = j by omega] at this
      rw [← this]
      exact hab _ (by omega)
  have PK : Hid (0 ≤ pk ∧ pk ≤ 1073741823) := Lib.hid (by rcases G.opn with ⟨_, _, rfl⟩ | h <;> omega)
  have VW0 := Lib.hid fun (w' : World) (h : Below w.heap.size w w') => validWatch_any hd (hx.below h) G (hbk h hcl)
  have IR0 := Lib.hid fun (w' : World) (h : Below w.heap.size w w') => inRange_any (hu.below h) (by omega) hX
  have AB0 := Lib.hid fun (w' : World) (h : Below w.heap.size w w') => absolute_any (hu.below h) (by omega) hX
  have XX0 := Lib.hid fun (w' : World) (h : Below w.heap.size w w') => hx.below h
  have SC0 := fun (w' : World) (h : Below w.heap.size w w') (v : Value) (hv : SV w' v (p + m) U) => scanG_any (se := p) (ba := cnt - p) (on0 := on) (off0 := off) (pk0 := pk) hd hv hpm UV.out (hbk h hcl) (by omega) (by omega) PK.out
  obtain ⟨se, on', off', pk', hse⟩ : ∃ se on' off' pk', scg ⟨S, L, ON, OFF⟩ U p (cnt - p) ⟨on, off, pk⟩ (p + m) = (se, ⟨on', off', pk'⟩) := ⟨_, _, _, _, rfl⟩
  have eba : ((cnt - p : Nat) : Int) = (cnt : Int) - (p : Int) := by omega
  rw [hse]
  simp only [hse, eba] at SC0
  replace SC0 := Lib.hid SC0
  clear hse eba
  dsimp only
  obtain ⟨pa, pc, rfl, pnc⟩ := sv_form hx
  obtain ⟨ua, uc, rfl, unc⟩ := sv_form hu
  have HU := Lib.hid hU
  have g1 : ¬ (65536 : Int) < (m : Int) := by omega
  have g2 : ¬ (16777216 : Int) < (cnt : Int) + (m : Int) := by omega
  clear hab hX hd G hx hu hcl hU
  obtain ⟨w1, hw1⟩ : ∃ w1, w1 = w.alloc (.cells #[.int .i64 S, .int .i64 L, .int .i64 ON, .int .i64 OFF, .slice pa p pc, .int .i64 (cnt : Int), .int .i64 on, .int .i64 off, .int .i64 pk] 34) := ⟨_, rfl⟩
  obtain ⟨w2, hw2⟩ : ∃ w2, w2 = w1.alloc (.cells #[.int .i64 0, .int .i64 0, .int .i64 0, .int .i64 0, .slice none 0 0, .int .i64 0, .int .i64 0, .int .i64 0, .int .i64 0] 34) := ⟨_, rfl⟩
  obtain ⟨q, hq⟩ : ∃ q, q = w.heap.size := ⟨_, rfl⟩
  obtain ⟨q', hq'⟩ : ∃ q', q' = w.heap.size + 1 := ⟨_, rfl⟩
  have s1 : w1.heap.size = w.heap.size + 1 := by rw [hw1]; simp
  have b1 : Below w.heap.size w w1 := by rw [hw1]; exact new_block _
  have b2 : Below w1.heap.size w1 w2 := by rw [hw2]; exact new_block _
  have BB := Lib.hid (Buf.then_ b1 b2)
  have K1 := Lib.hid (hbk b2 (show w1.heap[q]? = some (.cells #[.int .i64 S, .int .i64 L, .int .i64 ON, .int .i64 OFF, .slice pa p pc, .int .i64 (cnt : Int), .int .i64 on, .int .i64 off, .int .i64 pk] 34 (0, 0)) by rw [hw1, hq]; exact heap_alloc_new w _))
  have K2 := Lib.hid (show w2.heap[q']? = some (.cells #[.int .i64 0, .int .i64 0, .int .i64 0, .int .i64 0, .slice none 0 0, .int .i64 0, .int .i64 0, .int .i64 0, .int .i64 0] 34 (0, 0)) by rw [hw2, hq', ← s1]; exact heap_alloc_new w1 _)
  have nq : Hid (w.heap.size ≤ q ∧ q' = q + 1) := Lib.hid (by omega)
  obtain ⟨q0, q1, q2, q3, q4, q5, q6, q7, q8⟩ := c9 K1.out
  go_enter Tryd.func14, Tryd.ntmps14
  go_upto_region 1 with fail
  rw [← hw1, ← hw2, ← hq', ← hq]
  clear hw1 hw2 hq hq' b1 b2 s1
  go_upto_region 3 with (go_at_call 24; with_reducible refine (VW0.out _ BB.out).mono ?_; rintro e w3 ⟨rfl, hb⟩)
  replace BB := Lib.hid (Buf.then_ BB.out hb)
  replace K1 := Lib.hid (hbk hb K1.out)
  replace K2 := Lib.hid (hbk hb K2.out)
  clear q0 q1 q2 q3 q4 q5 q6 q7 q8
  obtain ⟨q0, q1, q2, q3, q4, q5, q6, q7, q8⟩ := c9 K1.out
  clear hb VW0
  go_upto_region 7 with (go_at_call 25; with_reducible refine (IR0.out _ BB.out).mono ?_; rintro e wz ⟨rfl, hb⟩)
  replace BB := Lib.hid (Buf.then_ BB.out hb)
  replace K1 := Lib.hid (hbk hb K1.out)
  replace K2 := Lib.hid (hbk hb K2.out)
  clear q0 q1 q2 q3 q4 q5 q6 q7 q8
  obtain ⟨q0, q1, q2, q3, q4, q5, q6, q7, q8⟩ := c9 K1.out
  clear hb IR0 q0 q1 q2 q3 q4 q5 q6 q7 q8
  have KZ := K1
  have AB := Lib.hid fun (w' : World) (h : Below wz.heap.size wz w') => AB0.out w' (Buf.then_ BB.out h)
  have XZ := Lib.hid fun (w' : World) (h : Below wz.heap.size wz w') => XX0.out w' (Buf.then_ BB.out h)
  clear AB0 XX0
  refine wp_region_noPanic ?_
  refine wp_region_any (by kernel_rfl) ?_
  refine Inv.wpAny_inv (fun k => false) [31, 32, 33, 34, 35, 36, 7] (fun w_ => Below wz.heap.size wz w_) (fun _ w_ w2_ => Below w_.heap.size w_ w2_) (fun k => ([fun v_ w_ => v_ = .pointer (some ⟨q, 4, none⟩), fun v_ w_ => v_ = .slice pa p pc, fun v_ w_ => v_ = .slice ua m uc, fun v_ w_ => SV w_ v_ m (ab X), fun v_ w_ => ∃ g_ r_, v_ = .slice (some ⟨g_, 0, none⟩) 2 2 ∧ w_.heap[g_]? = some (.cells #[.slice pa p pc, r_] 22 (0, 0)) ∧ SV w_ r_ m (ab X), fun v_ w_ => Buf.Own wz.heap.size w_ v_ (ints (lst p U ++ lst m (ab X))), fun v_ w_ => Buf.Own wz.heap.size w_ v_ (ints (lst p U ++ lst m (ab X)))] : List (Value → World → Prop)).getD k (fun _ _ => True)) _ (fun σ => by simp only [Inv.putAll, List.foldl_cons, List.foldl_nil, Act.put, List.setIfInBounds_toArray, List.set_cons_zero, List.set_cons_succ]; rfl) (by kernel_rfl) (by kernel_rfl) ?_ (Below.refl _ _).drew ?_ ?_ 0 #[true, true, true, true, true, true, true] (by kernel_rfl) (by kernel_rfl) ?_
  · intro j k v w1 w2 hjk hv hr
    rcases k with _ | k
    · exact hv
    rcases k with _ | k
    · exact hv
    rcases k with _ | k
    · exact hv
    rcases k with _ | k
    · exact (SV.below hv hr)
    rcases k with _ | k
    · exact (by obtain ⟨g_, r_, h1, h2, h3⟩ := hv; exact ⟨g_, r_, h1, hbk hr h2, h3.below hr⟩)
    rcases k with _ | k
    · exact (Buf.Own.below hv hr)
    rcases k with _ | k
    · exact (Buf.Own.below hv hr)
    · exact hv
  · intro k t hl hd
    rcases k with _ | k
    · exact absurd hl (by decide +kernel)
    rcases k with _ | k
    · exact absurd hl (by decide +kernel)
    rcases k with _ | k
    · exact absurd hl (by decide +kernel)
    rcases k with _ | k
    · exact absurd hl (by decide +kernel)
    rcases k with _ | k
    · exact absurd hl (by decide +kernel)
    rcases k with _ | k
    · exact absurd hl (by decide +kernel)
    rcases k with _ | k
    · exact absurd hl (by decide +kernel)
    · simp at hd
  · show Inv.Steps _ _ _ _ _ _ _ _ [0, 1, 2, 3, 4, 5, 6]
    refine Inv.Steps.go (by decide) (by rfl) (fun σ wx hw hd K hK => ?_) ?_
    · simp only [List.getElem_toArray, List.getElem_cons_zero, List.getElem_cons_succ, Act.put, List.setIfInBounds_toArray, List.set_cons_zero, List.set_cons_succ] at hK ⊢
      go_simp
      exact hK.out _ _ hw (Below.refl _ _) (rfl)
    refine Inv.Steps.go (by decide) (by rfl) (fun σ wx hw hd K hK => ?_) ?_
    · obtain e31 : (σ 31) = .pointer (some ⟨q, 4, none⟩) := hd 0 (some 31) (by kernel_rfl) (by rfl)
      simp only [List.getElem_toArray, List.getElem_cons_zero, List.getElem_cons_succ, Act.put, List.setIfInBounds_toArray, List.set_cons_zero, List.set_cons_succ, e31] at hK ⊢
      have q4 := (c9 (hbk hw KZ.out)).2.2.2.2.1
      go_simp
      exact hK.out _ _ hw (Below.refl _ _) (rfl)
    refine Inv.Steps.go (by decide) (by rfl) (fun σ wx hw hd K hK => ?_) ?_
    · simp only [List.getElem_toArray, List.getElem_cons_zero, List.getElem_cons_succ, Act.put, List.setIfInBounds_toArray, List.set_cons_zero, List.set_cons_succ] at hK ⊢
      go_simp
      exact hK.out _ _ hw (Below.refl _ _) (rfl)
    refine Inv.Steps.go (by decide) (by rfl) (fun σ wx hw hd K hK => ?_) ?_
    · obtain e33 : (σ 33) = .slice ua m uc := hd 2 (some 33) (by kernel_rfl) (by rfl)
      simp only [List.getElem_toArray, List.getElem_cons_zero, List.getElem_cons_succ, Act.put, List.setIfInBounds_toArray, List.set_cons_zero, List.set_cons_succ, e33] at hK ⊢
      go_simp
      go_at_call 27
      refine (AB.out wx hw).mono ?_
      rintro e w1 ⟨⟨v, rfl, ho⟩, hc⟩
      dsimp only
      exact hK.out _ _ (Buf.then_ hw hc) hc (ho)
    refine Inv.Steps.go (by decide) (by rfl) (fun σ wx hw hd K hK => ?_) ?_
    · obtain e32 : (σ 32) = .slice pa p pc := hd 1 (some 32) (by kernel_rfl) (by rfl)
      obtain o34 : SV wx (σ 34) m (ab X) := hd 3 (some 34) (by kernel_rfl) (by rfl)
      simp only [List.getElem_toArray, List.getElem_cons_zero, List.getElem_cons_succ, Act.put, List.setIfInBounds_toArray, List.set_cons_zero, List.set_cons_succ, e32] at hK ⊢
      obtain ⟨a34, c34, e34, _⟩ := sv_form o34
      rw [e34] at o34
      simp only [e34] at hK ⊢
      go_simp
      exact hK.out _ _ (Buf.then_ hw (new_block _)) (new_block _) (⟨_, _, rfl, heap_alloc_new _ _, o34.below (new_block _)⟩)
    refine Inv.Steps.go (by decide) (by rfl) (fun σ wx hw hd K hK => ?_) ?_
    · obtain ⟨g35, r35, e35, k35, o35⟩ : ∃ g_ r_, (σ 35) = .slice (some ⟨g_, 0, none⟩) 2 2 ∧ wx.heap[g_]? = some (.cells #[.slice pa p pc, r_] 22 (0, 0)) ∧ SV wx r_ m (ab X) := hd 4 (some 35) (by kernel_rfl) (by rfl)
      simp only [List.getElem_toArray, List.getElem_cons_zero, List.getElem_cons_succ, Act.put, List.setIfInBounds_toArray, List.set_cons_zero, List.set_cons_succ, e35] at hK ⊢
      go_simp
      go_at_call 26
      refine (concat_any k35 (XZ.out wx hw) o35 (by omega) (by omega)).mono ?_
      rintro e w1 ⟨⟨v, rfl, ho⟩, hc⟩
      dsimp only
      replace ho := ho.mono hw.size
      exact hK.out _ _ (Buf.then_ hw hc) hc (ho)
    refine Inv.Steps.go (by decide) (by rfl) (fun σ wx hw hd K hK => ?_) ?_
    · obtain o36 : Buf.Own wz.heap.size wx (σ 36) (ints (lst p U ++ lst m (ab X))) := hd 5 (some 36) (by kernel_rfl) (by rfl)
      simp only [List.getElem_toArray, List.getElem_cons_zero, List.getElem_cons_succ, Act.put, List.setIfInBounds_toArray, List.set_cons_zero, List.set_cons_succ] at hK ⊢
      go_simp
      exact hK.out _ _ hw (Below.refl _ _) (o36)
    exact Inv.Steps.nil
  · intro σ wx hw hd
    obtain o7 : Buf.Own wz.heap.size wx (σ 7) (ints (lst p U ++ lst m (ab X))) := hd 6 (some 7) (by rfl) (by rfl)
    refine Inv.done (by kernel_rfl) (NoPanic.normal ?_)
    have OV := Lib.hid o7
    have WH := Lib.hid hw
    clear hd hw
    have SV7 : SV wx (σ 7) (p + m) U := by
      have h := sv_own OV.out
      rw [show (lst p U ++ lst m (ab X)).length = p + m by simp [lst_len]] at h
      exact sv_congr h (fun j hj => by
        by_cases hjp : j < p
        · rw [fn_app_lt (by rw [lst_len]; exact hjp), fn_lst _ _ _ hjp]
        · rw [fn_app_ge (by rw [lst_len]; omega), lst_len, fn_lst _ _ _ (by omega), HU.out _ (by omega), show p + (j - p) = j by omega])
    replace BB := Lib.hid (Buf.then_ BB.out WH.out)
    replace K1 := Lib.hid (hbk WH.out K1.out)
    replace K2 := Lib.hid (hbk WH.out K2.out)
    have SC := Lib.hid (SC0.out wx BB.out _ SV7)
    clear OV WH SC0 AB XZ KZ HU
    generalize σ 7 = v7 at *
    obtain ⟨va, vc, rfl, vnc⟩ := sv_form SV7
    replace SV7 := Lib.hid SV7
    obtain ⟨q0, q1, q2, q3, q4, q5, q6, q7, q8⟩ := c9 K1.out
    go_upto_region 9 with (go_at_call 28; go_loud (refine SC.out.mono ?_; rintro e w9 ⟨⟨v9, he9, R9, N9⟩, hb⟩; subst he9))
    obtain ⟨w10, hw10⟩ : ∃ w10, w10 = w9.alloc (.cells #[.int .i64 on', .int .i64 off', .int .i64 pk'] 32) := ⟨_, rfl⟩
    obtain ⟨qt, hqt⟩ : ∃ qt, qt = w9.heap.size := ⟨_, rfl⟩
    have b10 : Below w9.heap.size w9 w10 := by rw [hw10]; exact new_block _
    have T1 := Lib.hid (show w10.heap[qt]? = some (.cells #[.int .i64 on', .int .i64 off', .int .i64 pk'] 32 (0, 0)) by rw [hw10, hqt]; exact heap_alloc_new w9 _)
    rw [← hw10, ← hqt]
    have bx := Buf.then_ hb b10
    have RB := Lib.hid (row_below R9 b10)
    have xsz := Lib.hid BB.out.size
    have N9' := Lib.hid N9
    have qlt : Hid (q < wx.heap.size ∧ q' < wx.heap.size ∧ wx.heap.size ≤ qt) := Lib.hid ⟨(Array.getElem?_eq_some_iff.1 K1.out).1, (Array.getElem?_eq_some_iff.1 K2.out).1, by rw [hqt]; exact hb.size⟩
    replace SV7 := Lib.hid (SV7.out.below bx)
    replace BB := Lib.hid (Buf.then_ BB.out bx)
    replace K1 := Lib.hid (hbk bx K1.out)
    replace K2 := Lib.hid (hbk bx K2.out)
    clear SC hb b10 hw10 hqt bx R9 N9 o7 q0 q1 q2 q3 q4 q5 q6 q7 q8
    obtain ⟨q0, q1, q2, q3, q4, q5, q6, q7, q8⟩ := c9 K1.out
    obtain ⟨y0, y1, y2⟩ := c3 T1.out
    obtain ⟨KK, hKK⟩ : ∃ KK, KK = min (p + m) (L - 1) := ⟨_, rfl⟩

    have hmin : min ((p : Int) + (m : Int)) ((L : Int) - 1) = (KK : Int) := by omega
    have k1 : KK ≤ p + m := by omega
    have k2 : KK + 1 ≤ L := by omega
    replace hKK := Lib.hid hKK
    go_upto_region 10 with fail
    try rw [hmin]
    clear hmin
    have SUB : Hid (∀ w', Below w10.heap.size w10 w' → 0 < p + m → ∃ b o, va = some ⟨b, o, none⟩ ∧ SV w' (.slice (some ⟨b, o + (p + m - KK), none⟩) KK (vc - (p + m - KK))) KK (fun j => U (p + m - KK + j))) := Lib.hid fun w' hb h0 => by
      obtain ⟨a', c', e, h1, h2, h3⟩ := SV7.out.below hb
      cases e
      obtain ⟨b, o, rfl, hbl, hc⟩ := h3 h0
      exact ⟨b, o, rfl, _, _, rfl, by omega, by omega, fun _ => ⟨b, o + (p + m - KK), rfl, hbl, fun j hj => by rw [Nat.add_assoc]; exact hc _ (by omega)⟩⟩
    rcases Nat.eq_zero_or_pos (p + m) with h0 | h0
    · exact absurd h0 (by omega)
    · obtain ⟨b, o, rfl, SS⟩ := SUB.out _ (Below.refl _ _) h0
      have kpos : 0 < KK := by have := hKK.out; omega
      replace SS := Lib.hid SS
      clear SUB SV7
      have n1 : ((p : Int) + (m : Int) - (KK : Int)).toNat = p + m - KK := by omega
      have n2 : 0 ≤ (p : Int) + (m : Int) - (KK : Int) := by omega
      have n3 : p + m - (p + m - KK) = KK := by omega
      have q10 : Hid (q < w10.heap.size ∧ q' < w10.heap.size) := Lib.hid ⟨(Array.getElem?_eq_some_iff.1 K1.out).1, (Array.getElem?_eq_some_iff.1 K2.out).1⟩
      have nqt : qt ≠ q := by have := qlt.out; omega
      have nqt' : ¬ q = qt := fun h => nqt h.symm
      go_upto_region 12 with (go_at_call 29; (try rw [n3]); go_loud (refine (clone_ty SS.out (by omega)).mono ?_; rintro e w11 ⟨⟨pn, he9, OP, TY⟩, hb⟩; subst he9; (replace TY := Lib.hid TY); (obtain ⟨na, nc, he, hnc⟩ := sv_form (sv_of_own OP)); subst he; (replace K1 := Lib.hid (hbk hb K1.out)); (replace K2 := Lib.hid (hbk hb K2.out)); (replace T1 := Lib.hid (hbk hb T1.out)); (replace OP := Lib.hid OP); (clear q0 q1 q2 q3 q4 q5 q6 q7 q8 y0 y1 y2); (obtain ⟨q0, q1, q2, q3, q4, q5, q6, q7, q8⟩ := c9 K1.out); (obtain ⟨y0, y1, y2⟩ := c3 T1.out); (have g4 := frozen_of_row w11 q 4 _ _ K1.out); (have g5 := frozen_of_row w11 q 5 _ _ K1.out)))
      obtain ⟨w12, hw12⟩ : ∃ w12, w12 = (w11.setCell ⟨q, 4, none⟩ (.slice na KK nc)).setCell ⟨q, 5, none⟩ (.int .i64 ((cnt : Int) + (m : Int))) := ⟨_, rfl⟩
      rw [← hw12]
      have E12 := Lib.hid (show ∀ k, k ≠ q → w12.heap[k]? = w11.heap[k]? from fun k hk => by rw [hw12]; exact (Below.heap_setCell _ _ _ k hk).trans (Below.heap_setCell _ _ _ k hk))
      have K12 := Lib.hid (show w12.heap[q]? = some (.cells #[.int .i64 S, .int .i64 L, .int .i64 ON, .int .i64 OFF, .slice na KK nc, .int .i64 ((cnt : Int) + (m : Int)), .int .i64 on, .int .i64 off, .int .i64 pk] 34 (0, 0)) by
        rw [hw12]
        have k0 := (heap_setCell_same w11 q 4 _ _ (.slice na KK nc) K1.out).trans (show _ = some (.cells #[.int .i64 S, .int .i64 L, .int .i64 ON, .int .i64 OFF, .slice na KK nc, .int .i64 (cnt : Int), .int .i64 on, .int .i64 off, .int .i64 pk] 34 (0, 0)) from rfl)
        exact (heap_setCell_same _ q 5 _ _ (.int .i64 ((cnt : Int) + (m : Int))) k0).trans rfl)
      have nqq : q' ≠ q := by have := nq.out; omega
      have K22 := Lib.hid ((E12.out q' nqq).trans K2.out)
      have T12 := Lib.hid ((E12.out qt nqt).trans T1.out)
      have BW12 := Lib.hid (show Below w.heap.size w w12 from by rw [hw12]; exact ((Buf.then_ BB.out hb).setCell (p := ⟨q, 4, none⟩) nq.out.1 _).setCell (p := ⟨q, 5, none⟩) nq.out.1 _)
      have Z12 := Lib.hid (show w12.heap.size = w11.heap.size from by rw [hw12]; simp [World.setCell])
      clear hw12 q0 q1 q2 q3 q4 q5 q6 q7 q8 y0 y1 y2 g4 g5
      obtain ⟨y0, y1, y2⟩ := c3 T12.out
      obtain ⟨w13, hw13⟩ : ∃ w13, w13 = w12.setCells q 6 [.int .i64 on', .int .i64 off', .int .i64 pk'] := ⟨_, rfl⟩
      have K13 := Lib.hid (show w13.heap[q]? = some (.cells #[.int .i64 S, .int .i64 L, .int .i64 ON, .int .i64 OFF, .slice na KK nc, .int .i64 ((cnt : Int) + (m : Int)), .int .i64 on', .int .i64 off', .int .i64 pk'] 34 (0, 0)) by rw [hw13]; exact (Mid.heap_set q _ _ 6 w12 _ K12.out).trans (by kernel_rfl))
      have E13 := Lib.hid (show ∀ k, k ≠ q → w13.heap[k]? = w11.heap[k]? from fun k hk => by rw [hw13, Mid.other q k hk]; exact E12.out k hk)
      have K23 := Lib.hid ((E13.out q' nqq).trans K2.out)
      have Z13 := Lib.hid (show w13.heap.size = w11.heap.size from by rw [hw13, Mid.size]; exact Z12.out)
      have BW := Lib.hid (show Below w.heap.size w w13 from by rw [hw13]; exact Mid.below _ q _ nq.out.1 _ 6 _ BW12.out)
      go_upto_region 13 with ((with_reducible refine Mid.stm 32 (.tmp 77) (.tmp 76) q 6 3 [.int .i64 on', .int .i64 off', .int .i64 pk'] (Mid.there K12.out 6 3 (by simp)) ?_ ?_ ?_ ?_ ?_ ?_ ?_ ?_); (· rfl); (· rfl); (· first | rfl | simp [Act.eval]); (· first | rfl | simp [Act.eval]); (· rfl); (· kernel_rfl); (· simp [Value.oneCell']))
      rw [← hw13]
      clear hw13 y0 y1 y2
      go_wp2_with (first
        | ((with_reducible refine Mid.ldr 34 (.tmp 2) q 34 #[.int .i64 S, .int .i64 L, .int .i64 ON, .int .i64 OFF, .slice na KK nc, .int .i64 ((cnt : Int) + (m : Int)), .int .i64 on', .int .i64 off', .int .i64 pk'] K13.out ?_ ?_ ?_ ?_ ?_ ?_); (· rfl); (· rfl); (· first | rfl | simp [Act.eval]); (· exact ⟨_, rfl, rfl⟩); (· kernel_rfl))
        | ((with_reducible refine Mid.str 34 (.tmp 4) (.tmp 78) q' 34 #[.int .i64 0, .int .i64 0, .int .i64 0, .int .i64 0, .slice none 0 0, .int .i64 0, .int .i64 0, .int .i64 0, .int .i64 0] #[.int .i64 S, .int .i64 L, .int .i64 ON, .int .i64 OFF, .slice na KK nc, .int .i64 ((cnt : Int) + (m : Int)), .int .i64 on', .int .i64 off', .int .i64 pk'] K23.out ?_ ?_ ?_ ?_ ?_ ?_ ?_ ?_); (· rfl); (· rfl); (· first | rfl | simp [Act.eval]); (· first | rfl | simp [Act.eval]); (· kernel_rfl); (· rfl); (· simp [Value.oneCell'])))
      refine bodyPost_ret (Res.row_tmp2 rfl _ _ q' _ _ _ _ rfl (setRow_heap _ _ _ #[.int .i64 S, .int .i64 L, .int .i64 ON, .int .i64 OFF, .slice na KK nc, .int .i64 ((cnt : Int) + (m : Int)), .int .i64 on', .int .i64 off', .int .i64 pk'] _ _ K23.out) rfl (by rfl) rfl) rfl ⟨⟨v9, .slice na KK nc, ?_, ?_, ?_, ?_, ?_⟩, ?_⟩
      · rw [show ((cnt + m : Nat) : Int) = (cnt : Int) + (m : Int) by omega]; rfl
      · have R := row_below RB.out hb
        exact own_mono (own_kept R (fun k hk => by
          have hB := own_base R hk
          have := qlt.out
          rw [setRow_other _ _ _ _ (by omega)]
          exact E13.out k (by omega))) xsz.out
      · have hP := OP.out
        have := q10.out
        rcases hP with ⟨e, _⟩ | ⟨g, cap, e, hB⟩
        · cases e
          rw [← hKK.out]
          exact ⟨_, _, rfl, by omega, by omega, fun h => absurd h (by omega)⟩
        · have hg := hB.base
          rw [← hKK.out]
          refine sv_of_own (B := w10.heap.size) (.inr ⟨g, cap, e, hB.of_block ?_ ?_⟩)
          · rw [setRow_other _ _ _ _ (by omega)]
            exact E13.out g (by omega)
          · rw [size_setRow, Z13.out]; exact Nat.le_refl _
      · intro b' hb'
        rcases OP.out with ⟨e, _⟩ | ⟨g, cap, e, hB⟩
        · rw [e] at hb'; cases hb'
        · rw [e] at hb'
          simp only [Value.ownBlock, Option.some.injEq] at hb'
          have := hB.base
          have := BB.out.size
          omega
      · intro b' hb'
        obtain ⟨cs, hcs⟩ := TY.out b' hb'
        have hge : w10.heap.size ≤ b' := by
          rcases OP.out with ⟨e, _⟩ | ⟨g, cap, e, hB⟩
          · rw [e] at hb'; cases hb'
          · rw [e] at hb'
            simp only [Value.ownBlock, Option.some.injEq] at hb'
            have := hB.base
            omega
        have := q10.out
        exact ⟨cs, by rw [setRow_other _ _ _ _ (by omega), E13.out b' (by omega)]; exact hcs⟩
      · exact Mid.below_row BW.out q' _ (by have := nq.out; omega)
end Det
end Go.Proofs.YtbmcmiggifknfaaDoor
