/- The reference's Lose for any lists. -/
import Derived.Test.YtfmhfhggogjbkaaRxAD
import Derived.Test.YtfmhfhggogjbkaaRxE
import Derived.Test.YtfmhfhggogjbkaaRfAL
set_option linter.unusedVariables false
set_option linter.unusedSimpArgs false
namespace Go.Proofs.Ytfmhfhggogjbkaa
open Go.RowKit Dice Wi
namespace Rx
open Spn
open Sp (cells2 cells2_snoc cells2_get Spans own_kept own_below own_mono own_shape)
set_option maxHeartbeats 8000000 in
set_option maxRecDepth 100000 in
theorem reflose_any {w : World} {vg vl : Value} {f g : Int → Bool} (h : Rc w vg vl f g) (q : Int) (q0 : 0 ≤ q) (q9 : q ≤ 1073741825) :
    Calls Try.prog 42 #[.agg #[vg, vl], .int .i64 q] w fun e w' => Los f g q w' e ∧ Below w.heap.size w w' := by
  obtain ⟨ga, gn, gc, rfl, _⟩ := Sw.form h.got
  obtain ⟨la, ln, lc, rfl, _⟩ := Sw.form h.lost
  have AP2 := Lib.hid (show ∀ x, (f x && (fun x => g x || (decide (0 ≤ x ∧ x < q) && !f x)) x) = false from fun x => by
    have := h.apart x
    cases hf : f x <;> simp [hf] at this ⊢
    exact this)
  have HR := Lib.hid h
  clear h
  go_enter Try.func42, Try.ntmps42
  obtain ⟨bb, hbb⟩ : ∃ bb, bb = w.heap.size := ⟨_, rfl⟩
  obtain ⟨wb, hwb⟩ : ∃ wb, wb = (w.alloc (.cells #[.slice ga gn gc, .slice la ln lc] 46)).alloc (.cells #[.slice none 0 0, .slice none 0 0] 46) := ⟨_, rfl⟩
  have B0 := Lib.hid (show Below w.heap.size w wb by rw [hwb]; exact Buf.then_ (new_block _) (new_block _))
  have PX : wb.heap[bb]? = some (.cells #[.slice ga gn gc, .slice la ln lc] 46 (0, 0)) := by rw [hwb, hbb]; exact hop (new_block _) (heap_alloc_new w _)
  have PY : wb.heap[bb + 1]? = some (.cells #[.slice none 0 0, .slice none 0 0] 46 (0, 0)) := by
    have e : (w.alloc (.cells #[.slice ga gn gc, .slice la ln lc] 46)).heap.size = bb + 1 := by rw [hbb]; simp
    rw [hwb, ← e]; exact heap_alloc_new _ _
  obtain ⟨k0, k1⟩ := Spn.c2 PX
  have V := Lib.hid (refvalid11_yes (HR.out.keep B0.out))
  have PX' := Lib.hid PX
  have PY' := Lib.hid PY
  clear PX PY
  go_wp2_with fail
  rw [← hwb, ← hbb]
  refine V.out.mono ?_
  rintro e w1 ⟨rfl, hb⟩
  clear k0 k1 V
  replace PX' := Lib.hid (hop hb PX'.out)
  replace PY' := Lib.hid (hop hb PY'.out)
  replace B0 := Lib.hid (Buf.then_ B0.out hb)
  clear hb
  replace hwb := Lib.hid hwb
  replace hbb := Lib.hid hbb
  obtain ⟨k0, k1⟩ := Spn.c2 PX'.out
  have KA : ∀ (o : Obj), (w1.alloc o).cell? ⟨bb, 0, none⟩ = some (.slice ga gn gc) := fun o => (Spn.c2 (hop ((Below.refl w1.heap.size w1).alloc (Nat.le_refl _) o) PX'.out)).1
  go_wp2_with (go_at_call 62; refine (refin_b _ _ _ _ (by omega) (by omega)).mono ?_; rintro e w' ⟨rfl, hweq⟩; subst hweq)
  obtain ⟨wA, hwA⟩ : ∃ wA, wA = w'.alloc (.cells #[.int .i64 0, .int .i64 q] 49) := ⟨_, rfl⟩
  obtain ⟨bo, hbo⟩ : ∃ bo, bo = w'.heap.size := ⟨_, rfl⟩
  obtain ⟨br, hbr'⟩ : ∃ br, br = bb + 1 := ⟨_, rfl⟩
  have BX : Below w'.heap.size w' wA := by rw [hwA]; exact (Below.refl _ _).alloc (Nat.le_refl _) _
  have PO : wA.heap[bo]? = some (.cells #[.int .i64 0, .int .i64 q] 49 (0, 0)) := by rw [hwA, hbo]; exact heap_alloc_new w' _
  have hbr : w.heap.size ≤ br := by have := hbb.out; omega
  rw [← hwA, ← hbo]
  rw [← hbr'] at PY'
  have BA := Lib.hid (Buf.then_ B0.out BX)
  have PXA := Lib.hid (hop BX PX'.out)
  have PYA := Lib.hid (hop BX PY'.out)
  have M := Lib.hid (refminus_sw (rw_one PO (Int.le_refl 0) (by omega)) (HR.out.keep BA.out).got.rv (by omega) (by omega))
  clear BX PO B0 PX' PY' k0 k1 KA hwA hbo
  refine M.out.mono ?_
  rintro e wS ⟨⟨r, rfl, hS⟩, hb⟩
  obtain ⟨ha, hn, hc, rfl, _⟩ := Sw.form hS
  have BS := Lib.hid (Buf.then_ BA.out hb)
  have PBx := Lib.hid (hop hb PXA.out)
  have PR := Lib.hid (hop hb PYA.out)
  have PB := Lib.hid fun wx (hb : Below wS.heap.size wS wx) => Spn.c2 (hop hb PBx.out)
  have RG := Lib.hid fun wx (hb : Below wS.heap.size wS wx) => (HR.out.keep (Buf.then_ BS.out hb)).got
  have RL := Lib.hid fun wx (hb : Below wS.heap.size wS wx) => (HR.out.keep (Buf.then_ BS.out hb)).lost
  have RH := Lib.hid fun wx (hb : Below wS.heap.size wS wx) => hS.keep hb
  clear BA PXA PYA M hS hb HR hbb hwb
  go_upto_region 6 with fail
  rw [← hbr']
  clear hbr'
  have hw0 : Below wS.heap.size wS wS.drew := (Below.refl _ _).drew
  refine wp_region_noPanic ?_
  refine wp_region_any (by kernel_rfl) ?_
  refine Inv.wpAny_inv (fun k => k == 11 || k == 12) [21, 22, 23, 24, 25, 26, 27, 28, 29, 30, 31] (fun w' => Below wS.heap.size wS w') (fun _ w1 w2 => Below w1.heap.size w1 w2) (fun k => ([fun v_ w_ => v_ = .pointer (some ⟨bb, 0, none⟩), fun v_ w_ => v_ = .slice ga gn gc, fun v_ w_ => ∃ a n c, v_ = .slice a n c ∧ Sw w_ (.slice a n c) f 40, fun v_ w_ => v_ = .pointer (some ⟨bb, 1, none⟩), fun v_ w_ => v_ = .slice la ln lc, fun v_ w_ => v_ = .slice ha hn hc, fun v_ w_ => ∃ a n c, v_ = .slice a n c ∧ Sw w_ (.slice a n c) (fun x => g x || (decide (0 ≤ x ∧ x < q) && !f x)) (40 + (40 + 2 * 1)), fun v_ w_ => ∃ a n c a' n' c', v_ = .agg #[.slice a n c, .slice a' n' c'] ∧ Sw w_ (.slice a n c) f 40 ∧ Sw w_ (.slice a' n' c') (fun x => g x || (decide (0 ≤ x ∧ x < q) && !f x)) (40 + (40 + 2 * 1)), fun v_ w_ => ∃ a n c a' n' c', v_ = .tuple #[.agg #[.slice a n c, .slice a' n' c'], .int .i64 0] ∧ Sw w_ (.slice a n c) f 40 ∧ Sw w_ (.slice a' n' c') (fun x => g x || (decide (0 ≤ x ∧ x < q) && !f x)) (40 + (40 + 2 * 1)), fun v_ w_ => ∃ a n c a' n' c', v_ = .agg #[.slice a n c, .slice a' n' c'] ∧ Sw w_ (.slice a n c) f 40 ∧ Sw w_ (.slice a' n' c') (fun x => g x || (decide (0 ≤ x ∧ x < q) && !f x)) (40 + (40 + 2 * 1)), fun v_ w_ => v_ = .int .i64 0, fun v_ w_ => True, fun v_ w_ => True] : List (Value → World → Prop)).getD k (fun _ _ => True)) _ (fun σ => by simp only [Inv.putAll, List.foldl_cons, List.foldl_nil, Act.put, List.setIfInBounds_toArray, List.set_cons_zero, List.set_cons_succ]; rfl) (by kernel_rfl) (by kernel_rfl) ?_ hw0 ?_ ?_ 2 #[true, true, true, true, true, true, true, true, true, true, true, false, false] (by kernel_rfl) (by kernel_rfl) ?_
  · intro j k v w1 w2 hjk hv hr
    rcases k with _ | k
    · exact hv
    rcases k with _ | k
    · exact hv
    rcases k with _ | k
    · exact by obtain ⟨a, n, c, e, h⟩ := hv; exact ⟨a, n, c, e, h.keep hr⟩
    rcases k with _ | k
    · exact hv
    rcases k with _ | k
    · exact hv
    rcases k with _ | k
    · exact hv
    rcases k with _ | k
    · exact by obtain ⟨a, n, c, e, h⟩ := hv; exact ⟨a, n, c, e, h.keep hr⟩
    rcases k with _ | k
    · exact by obtain ⟨a, n, c, a', n', c', e, h, h'⟩ := hv; exact ⟨a, n, c, a', n', c', e, h.keep hr, h'.keep hr⟩
    rcases k with _ | k
    · exact by obtain ⟨a, n, c, a', n', c', e, h, h'⟩ := hv; exact ⟨a, n, c, a', n', c', e, h.keep hr, h'.keep hr⟩
    rcases k with _ | k
    · exact by obtain ⟨a, n, c, a', n', c', e, h, h'⟩ := hv; exact ⟨a, n, c, a', n', c', e, h.keep hr, h'.keep hr⟩
    rcases k with _ | k
    · exact hv
    rcases k with _ | k
    · exact hv
    rcases k with _ | k
    · exact hv
    · exact hv
  · intro k t hl hd
    rcases k with _ | k
    · exact absurd hl (by decide +kernel)
    rcases k with _ | k
    · exact absurd hl (by decide +kernel)
    rcases k with _ | k
    · exact absurd hl (by decide +kernel)
    rcases k with _ | k
    · exact absurd hl (by decide +kernel)
    rcases k with _ | k
    · exact absurd hl (by decide +kernel)
    rcases k with _ | k
    · exact absurd hl (by decide +kernel)
    rcases k with _ | k
    · exact absurd hl (by decide +kernel)
    rcases k with _ | k
    · exact absurd hl (by decide +kernel)
    rcases k with _ | k
    · exact absurd hl (by decide +kernel)
    rcases k with _ | k
    · exact absurd hl (by decide +kernel)
    rcases k with _ | k
    · exact absurd hl (by decide +kernel)
    rcases k with _ | k
    · exact absurd hl (by decide +kernel)
    rcases k with _ | k
    · exact absurd hl (by decide +kernel)
    · simp at hd
  · show Inv.Steps _ _ _ _ _ _ _ _ [0, 1, 2, 3, 4, 5, 6, 7, 8, 9, 10]
    refine Inv.Steps.go (by decide) (by rfl) (fun σ wx hw hd K hK => ?_) ?_
    · simp only [List.getElem_toArray, List.getElem_cons_zero, List.getElem_cons_succ, Act.put, List.setIfInBounds_toArray, List.set_cons_zero, List.set_cons_succ] at hK ⊢
      go_simp
      exact hK.out _ _ hw (Below.refl _ _) (rfl)
    refine Inv.Steps.go (by decide) (by rfl) (fun σ wx hw hd K hK => ?_) ?_
    · obtain e21 : (σ 21) = .pointer (some ⟨bb, 0, none⟩) := hd 0 (some 21) (by kernel_rfl) (by rfl)
      simp only [List.getElem_toArray, List.getElem_cons_zero, List.getElem_cons_succ, Act.put, List.setIfInBounds_toArray, List.set_cons_zero, List.set_cons_succ, e21] at hK ⊢
      obtain ⟨k0, k1_⟩ := PB.out _ hw
      go_simp
      exact hK.out _ _ hw (Below.refl _ _) (rfl)
    refine Inv.Steps.go (by decide) (by rfl) (fun σ wx hw hd K hK => ?_) ?_
    · obtain e22 : (σ 22) = .slice ga gn gc := hd 1 (some 22) (by kernel_rfl) (by rfl)
      simp only [List.getElem_toArray, List.getElem_cons_zero, List.getElem_cons_succ, Act.put, List.setIfInBounds_toArray, List.set_cons_zero, List.set_cons_succ, e22] at hK ⊢
      obtain ⟨N, hN, hNI, hNl, hNn⟩ := RG.out _ hw
      refine wp_spansw (.const (.slice none 0 0)) (.tmp 22) rfl (by simp [Act.eval]) (by simp [Act.eval]) (show Sp.Spans wx wx.heap.size (.slice none 0 0) [] from World.ownsRow_nil _ _ _ _) hN (Nat.le_refl _) (by simp; omega) ?_
      intro v' w' O1 G1
      rw [List.nil_append] at O1
      have hb := (Below.refl wx.heap.size wx).grown G1 (Nat.le_refl _) (fun k hk => by cases hk)
      have hS : Sw w' v' f 40 := ⟨N, (its_of_own O1).wide, hNI, hNl, hNn⟩
      obtain ⟨ra, rn, rc, rfl, _⟩ := Sw.form hS
      exact hK.out _ _ (Buf.then_ hw hb) hb (⟨_, _, _, rfl, hS⟩)
    refine Inv.Steps.go (by decide) (by rfl) (fun σ wx hw hd K hK => ?_) ?_
    · simp only [List.getElem_toArray, List.getElem_cons_zero, List.getElem_cons_succ, Act.put, List.setIfInBounds_toArray, List.set_cons_zero, List.set_cons_succ] at hK ⊢
      go_simp
      exact hK.out _ _ hw (Below.refl _ _) (rfl)
    refine Inv.Steps.go (by decide) (by rfl) (fun σ wx hw hd K hK => ?_) ?_
    · obtain e24 : (σ 24) = .pointer (some ⟨bb, 1, none⟩) := hd 3 (some 24) (by kernel_rfl) (by rfl)
      simp only [List.getElem_toArray, List.getElem_cons_zero, List.getElem_cons_succ, Act.put, List.setIfInBounds_toArray, List.set_cons_zero, List.set_cons_succ, e24] at hK ⊢
      obtain ⟨k0, k1_⟩ := PB.out _ hw
      go_simp
      exact hK.out _ _ hw (Below.refl _ _) (rfl)
    refine Inv.Steps.go (by decide) (by rfl) (fun σ wx hw hd K hK => ?_) ?_
    · simp only [List.getElem_toArray, List.getElem_cons_zero, List.getElem_cons_succ, Act.put, List.setIfInBounds_toArray, List.set_cons_zero, List.set_cons_succ] at hK ⊢
      go_simp
      exact hK.out _ _ hw (Below.refl _ _) (rfl)
    refine Inv.Steps.go (by decide) (by rfl) (fun σ wx hw hd K hK => ?_) ?_
    · obtain e25 : (σ 25) = .slice la ln lc := hd 4 (some 25) (by kernel_rfl) (by rfl)
      obtain e26 : (σ 26) = .slice ha hn hc := hd 5 (some 26) (by kernel_rfl) (by rfl)
      simp only [List.getElem_toArray, List.getElem_cons_zero, List.getElem_cons_succ, Act.put, List.setIfInBounds_toArray, List.set_cons_zero, List.set_cons_succ, e25, e26] at hK ⊢
      go_simp
      go_at_call 17
      refine (refunion_sw (RL.out _ hw).rv (RH.out _ hw).rv (by omega) (by omega)).mono ?_
      rintro e w1 ⟨⟨r, rfl, hS⟩, hb⟩
      dsimp only
      obtain ⟨ra, rn, rc, rfl, _⟩ := Sw.form hS
      exact hK.out _ _ (Buf.then_ hw hb) hb (⟨_, _, _, rfl, hS⟩)
    refine Inv.Steps.go (by decide) (by rfl) (fun σ wx hw hd K hK => ?_) ?_
    · obtain ⟨ua, un, uc, e23, S23⟩ : ∃ a n c, (σ 23) = .slice a n c ∧ Sw wx (.slice a n c) f 40 := hd 2 (some 23) (by kernel_rfl) (by rfl)
      obtain ⟨va, vn, vc, e27, S27⟩ : ∃ a n c, (σ 27) = .slice a n c ∧ Sw wx (.slice a n c) (fun x => g x || (decide (0 ≤ x ∧ x < q) && !f x)) (40 + (40 + 2 * 1)) := hd 6 (some 27) (by kernel_rfl) (by rfl)
      simp only [List.getElem_toArray, List.getElem_cons_zero, List.getElem_cons_succ, Act.put, List.setIfInBounds_toArray, List.set_cons_zero, List.set_cons_succ, e23, e27] at hK ⊢
      go_simp
      exact hK.out _ _ hw (Below.refl _ _) (⟨_, _, _, _, _, _, rfl, S23, S27⟩)
    refine Inv.Steps.go (by decide) (by rfl) (fun σ wx hw hd K hK => ?_) ?_
    · obtain ⟨ua, un, uc, va, vn, vc, e28, S23, S27⟩ : ∃ a n c a' n' c', (σ 28) = .agg #[.slice a n c, .slice a' n' c'] ∧ Sw wx (.slice a n c) f 40 ∧ Sw wx (.slice a' n' c') (fun x => g x || (decide (0 ≤ x ∧ x < q) && !f x)) (40 + (40 + 2 * 1)) := hd 7 (some 28) (by kernel_rfl) (by rfl)
      simp only [List.getElem_toArray, List.getElem_cons_zero, List.getElem_cons_succ, Act.put, List.setIfInBounds_toArray, List.set_cons_zero, List.set_cons_succ, e28] at hK ⊢
      have n1 := Sw.len S23
      have n2 := Sw.len S27
      go_simp
      go_at_call 66
      refine (reflimited_any _ _ _ _ _ _ (by omega) (by omega) _).mono ?_
      rintro e w1 ⟨rfl, hb⟩
      dsimp only
      exact hK.out _ _ (Buf.then_ hw hb) hb (⟨_, _, _, _, _, _, rfl, S23.keep hb, S27.keep hb⟩)
    refine Inv.Steps.go (by decide) (by rfl) (fun σ wx hw hd K hK => ?_) ?_
    · obtain ⟨ua, un, uc, va, vn, vc, e29, S23, S27⟩ : ∃ a n c a' n' c', (σ 29) = .tuple #[.agg #[.slice a n c, .slice a' n' c'], .int .i64 0] ∧ Sw wx (.slice a n c) f 40 ∧ Sw wx (.slice a' n' c') (fun x => g x || (decide (0 ≤ x ∧ x < q) && !f x)) (40 + (40 + 2 * 1)) := hd 8 (some 29) (by kernel_rfl) (by rfl)
      simp only [List.getElem_toArray, List.getElem_cons_zero, List.getElem_cons_succ, Act.put, List.setIfInBounds_toArray, List.set_cons_zero, List.set_cons_succ, e29] at hK ⊢
      go_simp
      exact hK.out _ _ hw (Below.refl _ _) (⟨_, _, _, _, _, _, rfl, S23, S27⟩)
    refine Inv.Steps.go (by decide) (by rfl) (fun σ wx hw hd K hK => ?_) ?_
    · obtain ⟨ua, un, uc, va, vn, vc, e29, S23, S27⟩ : ∃ a n c a' n' c', (σ 29) = .tuple #[.agg #[.slice a n c, .slice a' n' c'], .int .i64 0] ∧ Sw wx (.slice a n c) f 40 ∧ Sw wx (.slice a' n' c') (fun x => g x || (decide (0 ≤ x ∧ x < q) && !f x)) (40 + (40 + 2 * 1)) := hd 8 (some 29) (by kernel_rfl) (by rfl)
      simp only [List.getElem_toArray, List.getElem_cons_zero, List.getElem_cons_succ, Act.put, List.setIfInBounds_toArray, List.set_cons_zero, List.set_cons_succ, e29] at hK ⊢
      go_simp
      exact hK.out _ _ hw (Below.refl _ _) (rfl)
    exact Inv.Steps.nil
  · intro σ wx hw hd
    obtain ⟨ua, un, uc, va, vn, vc, e30, S23, S27⟩ : ∃ a n c a' n' c', (σ 30) = .agg #[.slice a n c, .slice a' n' c'] ∧ Sw wx (.slice a n c) f 40 ∧ Sw wx (.slice a' n' c') (fun x => g x || (decide (0 ≤ x ∧ x < q) && !f x)) (40 + (40 + 2 * 1)) := hd 9 (some 30) (by rfl) (by rfl)
    obtain e31 : (σ 31) = .int .i64 0 := hd 10 (some 31) (by rfl) (by rfl)
    simp only [e30, e31]
    have P4 := hop hw PR.out
    obtain ⟨k0, k1_⟩ := Spn.c2 P4
    have f0 := frozen_of_row wx br 0 _ _ P4
    have f1 := frozen_of_row wx br 1 _ _ P4
    refine Inv.one (i := 11) (by decide) (by kernel_rfl) (by rfl) (fun K hK => ?_)
    simp only [List.getElem_toArray, List.getElem_cons_zero, List.getElem_cons_succ, Act.put, List.setIfInBounds_toArray, List.set_cons_zero, List.set_cons_succ] at hK ⊢
    go_simp
    refine hK.out _ _ ?_
    clear hK K
    refine Inv.take (i := 12) (v := .int .i64 0) (by decide) rfl (by kernel_rfl) (by kernel_rfl) (by kernel_rfl) (fun _ _ _ h => h) (by rfl) (fun w' => ?_) ?_
    · simp only [List.getElem_toArray, List.getElem_cons_zero, List.getElem_cons_succ]
      go_simp
    try simp only [Act.put, List.setIfInBounds_toArray, List.set_cons_zero, List.set_cons_succ]
    refine Inv.done (by kernel_rfl) (NoPanic.normal ?_)
    have Q4 := (heap_setCell_same wx br 0 _ _ (.slice ua un uc) P4).trans rfl
    have Z4 := (heap_setCell_same (wx.setCell ⟨br, 0, none⟩ (.slice ua un uc)) br 1 _ _ (.slice va vn vc) Q4).trans rfl
    have RR := Lib.hid (show Rd _ _ _ _ _ from ⟨Sw.short (Sw.set (Sw.set S23 P4 (o := 0) (.slice ua un uc)) Q4 (o := 1) (.slice va vn vc)) (by omega), Sw.short (Sw.set (Sw.set S27 P4 (o := 0) (.slice ua un uc)) Q4 (o := 1) (.slice va vn vc)) (by omega), AP2.out⟩)
    have BQ := Lib.hid (((BS.out.trans (hw.mono BS.out.size)).setCell (p := ⟨br, 0, none⟩) hbr (.slice ua un uc)).setCell (p := ⟨br, 1, none⟩) hbr (.slice va vn vc))
    clear k0 k1_ f0 f1 P4 Q4 hd hw e30 S23 S27
    generalize (wx.setCell ⟨br, 0, none⟩ (.slice ua un uc)).setCell ⟨br, 1, none⟩ (.slice va vn vc) = wU at *
    obtain ⟨k0, k1_⟩ := Spn.c2 Z4
    clear Z4
    go_wp2_with fail
    refine bodyPost_ret (v := .tuple #[.agg #[.slice ua un uc, .slice va vn vc], .int .i64 0]) (by simp [results, Try.results42, go_sem, k0, k1_]) rfl ⟨⟨_, _, rfl, RR.out⟩, BQ.out⟩
end Rx
end Go.Proofs.Ytfmhfhggogjbkaa
