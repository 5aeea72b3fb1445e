/- The reference's Accept for any lists. -/
import Derived.Test.YtfmhfhggogjbkaaRxAD
import Derived.Test.YtfmhfhggogjbkaaRxU
import Derived.Test.YtfmhfhggogjbkaaInvB
import Derived.Test.YtfmhfhggogjbkaaRes
import Derived.Test.YtfmhfhggogjbkaaRfAL
set_option linter.unusedVariables false
set_option linter.unusedSimpArgs false
namespace Go.Proofs.Ytfmhfhggogjbkaa
open Go.RowKit Dice Wi
namespace Rx
open Spn
open Sp (cells2 cells2_snoc cells2_get Spans own_kept own_below own_mono own_shape)
set_option maxHeartbeats 8000000 in
set_option maxRecDepth 100000 in
theorem refaccept_any {w : World} {vg vl : Value} {f g : Int → Bool} (h : Rc w vg vl f g) (q : Int) (q0 : 0 ≤ q) (q9 : q ≤ 1073741824) :
    Calls Try.prog 40 #[.agg #[vg, vl], .int .i64 q] w fun e w' => Acc f g q w' e ∧ Below w.heap.size w w' := by
  obtain ⟨ga, gn, gc, rfl, _⟩ := Sw.form h.got
  obtain ⟨la, ln, lc, rfl, _⟩ := Sw.form h.lost
  have AP2 := Lib.hid (show ∀ x, ((fun x => f x || decide (x = q)) x && (fun x => g x && !decide (x = q)) x) = false from fun x => by
    have := h.apart x
    by_cases e : x = q <;> simp [e]
    simpa [e] using this)
  have HR := Lib.hid h
  clear h
  go_enter Try.func40, Try.ntmps40
  obtain ⟨bb, hbb⟩ : ∃ bb, bb = w.heap.size := ⟨_, rfl⟩
  obtain ⟨wb, hwb⟩ : ∃ wb, wb = (w.alloc (.cells #[.slice ga gn gc, .slice la ln lc] 46)).alloc (.cells #[.slice none 0 0, .slice none 0 0] 46) := ⟨_, rfl⟩
  have B0 := Lib.hid (show Below w.heap.size w wb by rw [hwb]; exact Buf.then_ (new_block _) (new_block _))
  have PX : wb.heap[bb]? = some (.cells #[.slice ga gn gc, .slice la ln lc] 46 (0, 0)) := by rw [hwb, hbb]; exact hop (new_block _) (heap_alloc_new w _)
  have PY : wb.heap[bb + 1]? = some (.cells #[.slice none 0 0, .slice none 0 0] 46 (0, 0)) := by
    have e : (w.alloc (.cells #[.slice ga gn gc, .slice la ln lc] 46)).heap.size = bb + 1 := by rw [hbb]; simp
    rw [hwb, ← e]; exact heap_alloc_new _ _
  obtain ⟨k0, k1⟩ := Spn.c2 PX
  have V := Lib.hid (refvalid11_yes (HR.out.keep B0.out))
  have PX' := Lib.hid PX
  have PY' := Lib.hid PY
  clear PX PY
  have wq : q + 1 ≤ 1073741825 := by omega
  go_wp2_with fail
  rw [← hwb, ← hbb]
  refine V.out.mono ?_
  rintro e w1 ⟨rfl, hb⟩
  clear k0 k1 V
  replace PX' := Lib.hid (hop hb PX'.out)
  replace PY' := Lib.hid (hop hb PY'.out)
  replace B0 := Lib.hid (Buf.then_ B0.out hb)
  clear hb
  replace hwb := Lib.hid hwb
  replace hbb := Lib.hid hbb
  go_wp2_with (go_at_call 62; refine (refin_b _ _ _ _ (by omega) (by omega)).mono ?_; rintro e w' ⟨rfl, hweq⟩; subst hweq)
  obtain ⟨wS, hwS⟩ : ∃ wS, wS = w'.alloc (.cells #[.int .i64 q, .int .i64 (q + 1)] 49) := ⟨_, rfl⟩
  obtain ⟨bo, hbo⟩ : ∃ bo, bo = w'.heap.size := ⟨_, rfl⟩
  obtain ⟨br, hbr'⟩ : ∃ br, br = bb + 1 := ⟨_, rfl⟩
  have BX : Below w'.heap.size w' wS := by rw [hwS]; exact (Below.refl _ _).alloc (Nat.le_refl _) _
  have PO : wS.heap[bo]? = some (.cells #[.int .i64 q, .int .i64 (q + 1)] 49 (0, 0)) := by rw [hwS, hbo]; exact heap_alloc_new w' _
  have hbr : w.heap.size ≤ br := by have := hbb.out; omega
  rw [← hwS, ← hbo, ← hbr']
  rw [← hbr'] at PY'
  have BS := Lib.hid (Buf.then_ B0.out BX)
  have PBx := Lib.hid (hop BX PX'.out)
  have PR := Lib.hid (hop BX PY'.out)
  have PB := Lib.hid fun wx (hb : Below wS.heap.size wS wx) => Spn.c2 (hop hb PBx.out)
  have RG := Lib.hid fun wx (hb : Below wS.heap.size wS wx) => (HR.out.keep (Buf.then_ BS.out hb)).got
  have RL := Lib.hid fun wx (hb : Below wS.heap.size wS wx) => (HR.out.keep (Buf.then_ BS.out hb)).lost
  have RO := Lib.hid fun wx (hb : Below wS.heap.size wS wx) => Sw.ext (g := fun x => decide (x = q)) (sw_one (hop hb PO) q0 (by omega) (by omega)) (fun x => decide_eq_decide.2 ⟨fun h => by omega, fun h => by omega⟩)
  clear BX PO B0 PX' PY' HR hwS hbo hbr' hwb hbb
  have hw0 : Below wS.heap.size wS wS.drew := (Below.refl _ _).drew
  refine wp_region_noPanic ?_
  refine wp_region_any (by kernel_rfl) ?_
  refine Inv.wpAny_inv2 (fun k => k == 14 || k == 15) 12 99 [24, 25, 26, 27, 28, 29, 30, 31, 32, 33, 23, 34, 35, 8] (fun w' => Below wS.heap.size wS w') (fun _ w1 w2 => Below w1.heap.size w1 w2) (fun k => ([fun v_ w_ => v_ = .pointer (some ⟨bb, 0, none⟩), fun v_ w_ => v_ = .slice ga gn gc, fun v_ w_ => v_ = .slice (some ⟨bo, 0, none⟩) 1 1, fun v_ w_ => ∃ a n c, v_ = .slice a n c ∧ Sw w_ (.slice a n c) (fun x => f x || decide (x = q)) (40 + 40), fun v_ w_ => v_ = .pointer (some ⟨bb, 1, none⟩), fun v_ w_ => v_ = .slice la ln lc, fun v_ w_ => v_ = .slice (some ⟨bo, 0, none⟩) 1 1, fun v_ w_ => ∃ a n c, v_ = .slice a n c ∧ Sw w_ (.slice a n c) (fun x => g x && !decide (x = q)) (40 + 2 * 40), fun v_ w_ => ∃ a n c a' n' c', v_ = .agg #[.slice a n c, .slice a' n' c'] ∧ Sw w_ (.slice a n c) (fun x => f x || decide (x = q)) (40 + 40) ∧ Sw w_ (.slice a' n' c') (fun x => g x && !decide (x = q)) (40 + 2 * 40), fun v_ w_ => ∃ a n c a' n' c', v_ = .tuple #[.agg #[.slice a n c, .slice a' n' c'], .int .i64 0] ∧ Sw w_ (.slice a n c) (fun x => f x || decide (x = q)) (40 + 40) ∧ Sw w_ (.slice a' n' c') (fun x => g x && !decide (x = q)) (40 + 2 * 40), fun v_ w_ => ∃ a n c a' n' c', v_ = .tuple #[.agg #[.slice a n c, .slice a' n' c'], .int .i64 0] ∧ Sw w_ (.slice a n c) (fun x => f x || decide (x = q)) (40 + 40) ∧ Sw w_ (.slice a' n' c') (fun x => g x && !decide (x = q)) (40 + 2 * 40), fun v_ w_ => ∃ a n c a' n' c', v_ = .agg #[.slice a n c, .slice a' n' c'] ∧ Sw w_ (.slice a n c) (fun x => f x || decide (x = q)) (40 + 40) ∧ Sw w_ (.slice a' n' c') (fun x => g x && !decide (x = q)) (40 + 2 * 40), fun v_ w_ => v_ = .int .i64 0, fun v_ w_ => ∃ p, v_ = .pointer (some ⟨p, 0, none⟩) ∧ w_.heap[p]? = some (.cells #[.slice none 0 0, .slice none 0 0] 46 (0, 0)) ∧ wS.heap.size ≤ p, fun v_ w_ => True, fun v_ w_ => True] : List (Value → World → Prop)).getD k (fun _ _ => True)) _ (fun σ => by simp only [Inv.putAll, List.foldl_cons, List.foldl_nil, Act.put, List.setIfInBounds_toArray, List.set_cons_zero, List.set_cons_succ]; rfl) (by kernel_rfl) (by kernel_rfl) (by decide) ?_ hw0 ?_ ?_ (fun b1 b2 => cond b1 2 3) (fun b1 b2 => #[true, true, true, true, true, true, true, true, true, true, true, true, b1, true, false, false]) (by intro b1 b2; cases b1 <;> cases b2 <;> kernel_rfl) (by intro b1 b2; cases b1 <;> cases b2 <;> kernel_rfl) (by exact ⟨rfl, rfl⟩) ?_
  · intro j k v w1 w2 hjk hv hr
    rcases k with _ | k
    · exact hv
    rcases k with _ | k
    · exact hv
    rcases k with _ | k
    · exact hv
    rcases k with _ | k
    · exact by obtain ⟨a, n, c, e, h⟩ := hv; exact ⟨a, n, c, e, h.keep hr⟩
    rcases k with _ | k
    · exact hv
    rcases k with _ | k
    · exact hv
    rcases k with _ | k
    · exact hv
    rcases k with _ | k
    · exact by obtain ⟨a, n, c, e, h⟩ := hv; exact ⟨a, n, c, e, h.keep hr⟩
    rcases k with _ | k
    · exact by obtain ⟨a, n, c, a', n', c', e, h, h'⟩ := hv; exact ⟨a, n, c, a', n', c', e, h.keep hr, h'.keep hr⟩
    rcases k with _ | k
    · exact by obtain ⟨a, n, c, a', n', c', e, h, h'⟩ := hv; exact ⟨a, n, c, a', n', c', e, h.keep hr, h'.keep hr⟩
    rcases k with _ | k
    · exact by obtain ⟨a, n, c, a', n', c', e, h, h'⟩ := hv; exact ⟨a, n, c, a', n', c', e, h.keep hr, h'.keep hr⟩
    rcases k with _ | k
    · exact by obtain ⟨a, n, c, a', n', c', e, h, h'⟩ := hv; exact ⟨a, n, c, a', n', c', e, h.keep hr, h'.keep hr⟩
    rcases k with _ | k
    · exact hv
    rcases k with _ | k
    · exact by obtain ⟨p, e, h, h0⟩ := hv; exact ⟨p, e, hop hr h, h0⟩
    rcases k with _ | k
    · exact hv
    rcases k with _ | k
    · exact hv
    · exact hv
  · intro k t hl hd
    rcases k with _ | k
    · exact absurd hl (by decide +kernel)
    rcases k with _ | k
    · exact absurd hl (by decide +kernel)
    rcases k with _ | k
    · exact absurd hl (by decide +kernel)
    rcases k with _ | k
    · exact absurd hl (by decide +kernel)
    rcases k with _ | k
    · exact absurd hl (by decide +kernel)
    rcases k with _ | k
    · exact absurd hl (by decide +kernel)
    rcases k with _ | k
    · exact absurd hl (by decide +kernel)
    rcases k with _ | k
    · exact absurd hl (by decide +kernel)
    rcases k with _ | k
    · exact absurd hl (by decide +kernel)
    rcases k with _ | k
    · exact absurd hl (by decide +kernel)
    rcases k with _ | k
    · exact absurd hl (by decide +kernel)
    rcases k with _ | k
    · exact absurd hl (by decide +kernel)
    rcases k with _ | k
    · exact absurd hl (by decide +kernel)
    rcases k with _ | k
    · exact absurd hl (by decide +kernel)
    rcases k with _ | k
    · exact absurd hl (by decide +kernel)
    rcases k with _ | k
    · exact absurd hl (by decide +kernel)
    · simp at hd
  · show Inv.Steps _ _ _ _ _ _ _ _ [0, 1, 2, 3, 4, 5, 6, 7, 8, 9, 10, 11, 12, 13]
    refine Inv.Steps.go (by decide) (by rfl) (fun σ wx hw hd K hK => ?_) ?_
    · simp only [List.getElem_toArray, List.getElem_cons_zero, List.getElem_cons_succ, Act.put, List.setIfInBounds_toArray, List.set_cons_zero, List.set_cons_succ] at hK ⊢
      go_simp
      exact hK.out _ _ hw (Below.refl _ _) (rfl)
    refine Inv.Steps.go (by decide) (by rfl) (fun σ wx hw hd K hK => ?_) ?_
    · obtain e24 : (σ 24) = .pointer (some ⟨bb, 0, none⟩) := hd 0 (some 24) (by kernel_rfl) (by rfl)
      simp only [List.getElem_toArray, List.getElem_cons_zero, List.getElem_cons_succ, Act.put, List.setIfInBounds_toArray, List.set_cons_zero, List.set_cons_succ, e24] at hK ⊢
      obtain ⟨k0, k1_⟩ := PB.out _ hw
      go_simp
      exact hK.out _ _ hw (Below.refl _ _) (rfl)
    refine Inv.Steps.go (by decide) (by rfl) (fun σ wx hw hd K hK => ?_) ?_
    · simp only [List.getElem_toArray, List.getElem_cons_zero, List.getElem_cons_succ, Act.put, List.setIfInBounds_toArray, List.set_cons_zero, List.set_cons_succ] at hK ⊢
      go_simp
      exact hK.out _ _ hw (Below.refl _ _) (rfl)
    refine Inv.Steps.go (by decide) (by rfl) (fun σ wx hw hd K hK => ?_) ?_
    · obtain e25 : (σ 25) = .slice ga gn gc := hd 1 (some 25) (by kernel_rfl) (by rfl)
      obtain e26 : (σ 26) = .slice (some ⟨bo, 0, none⟩) 1 1 := hd 2 (some 26) (by kernel_rfl) (by rfl)
      simp only [List.getElem_toArray, List.getElem_cons_zero, List.getElem_cons_succ, Act.put, List.setIfInBounds_toArray, List.set_cons_zero, List.set_cons_succ, e25, e26] at hK ⊢
      go_simp
      go_at_call 17
      refine (refunion_sw (RG.out _ hw).rv (RO.out _ hw).rv (by omega) (by omega)).mono ?_
      rintro e w1 ⟨⟨r, rfl, hS⟩, hb⟩
      dsimp only
      obtain ⟨ra, rn, rc, rfl, _⟩ := Sw.form hS
      exact hK.out _ _ (Buf.then_ hw hb) hb (⟨_, _, _, rfl, hS⟩)
    refine Inv.Steps.go (by decide) (by rfl) (fun σ wx hw hd K hK => ?_) ?_
    · simp only [List.getElem_toArray, List.getElem_cons_zero, List.getElem_cons_succ, Act.put, List.setIfInBounds_toArray, List.set_cons_zero, List.set_cons_succ] at hK ⊢
      go_simp
      exact hK.out _ _ hw (Below.refl _ _) (rfl)
    refine Inv.Steps.go (by decide) (by rfl) (fun σ wx hw hd K hK => ?_) ?_
    · obtain e28 : (σ 28) = .pointer (some ⟨bb, 1, none⟩) := hd 4 (some 28) (by kernel_rfl) (by rfl)
      simp only [List.getElem_toArray, List.getElem_cons_zero, List.getElem_cons_succ, Act.put, List.setIfInBounds_toArray, List.set_cons_zero, List.set_cons_succ, e28] at hK ⊢
      obtain ⟨k0, k1_⟩ := PB.out _ hw
      go_simp
      exact hK.out _ _ hw (Below.refl _ _) (rfl)
    refine Inv.Steps.go (by decide) (by rfl) (fun σ wx hw hd K hK => ?_) ?_
    · simp only [List.getElem_toArray, List.getElem_cons_zero, List.getElem_cons_succ, Act.put, List.setIfInBounds_toArray, List.set_cons_zero, List.set_cons_succ] at hK ⊢
      go_simp
      exact hK.out _ _ hw (Below.refl _ _) (rfl)
    refine Inv.Steps.go (by decide) (by rfl) (fun σ wx hw hd K hK => ?_) ?_
    · obtain e29 : (σ 29) = .slice la ln lc := hd 5 (some 29) (by kernel_rfl) (by rfl)
      obtain e30 : (σ 30) = .slice (some ⟨bo, 0, none⟩) 1 1 := hd 6 (some 30) (by kernel_rfl) (by rfl)
      simp only [List.getElem_toArray, List.getElem_cons_zero, List.getElem_cons_succ, Act.put, List.setIfInBounds_toArray, List.set_cons_zero, List.set_cons_succ, e29, e30] at hK ⊢
      go_simp
      go_at_call 21
      refine (refminus_sw (RL.out _ hw).rv (RO.out _ hw).rv (by omega) (by omega)).mono ?_
      rintro e w1 ⟨⟨r, rfl, hS⟩, hb⟩
      dsimp only
      obtain ⟨ra, rn, rc, rfl, _⟩ := Sw.form hS
      exact hK.out _ _ (Buf.then_ hw hb) hb (⟨_, _, _, rfl, hS⟩)
    refine Inv.Steps.go (by decide) (by rfl) (fun σ wx hw hd K hK => ?_) ?_
    · obtain ⟨ua, un, uc, e27, S27⟩ : ∃ a n c, (σ 27) = .slice a n c ∧ Sw wx (.slice a n c) (fun x => f x || decide (x = q)) (40 + 40) := hd 3 (some 27) (by kernel_rfl) (by rfl)
      obtain ⟨va, vn, vc, e31, S31⟩ : ∃ a n c, (σ 31) = .slice a n c ∧ Sw wx (.slice a n c) (fun x => g x && !decide (x = q)) (40 + 2 * 40) := hd 7 (some 31) (by kernel_rfl) (by rfl)
      simp only [List.getElem_toArray, List.getElem_cons_zero, List.getElem_cons_succ, Act.put, List.setIfInBounds_toArray, List.set_cons_zero, List.set_cons_succ, e27, e31] at hK ⊢
      go_simp
      exact hK.out _ _ hw (Below.refl _ _) (⟨_, _, _, _, _, _, rfl, S27, S31⟩)
    refine Inv.Steps.go (by decide) (by rfl) (fun σ wx hw hd K hK => ?_) ?_
    · obtain ⟨ua, un, uc, va, vn, vc, e32, S27, S31⟩ : ∃ a n c a' n' c', (σ 32) = .agg #[.slice a n c, .slice a' n' c'] ∧ Sw wx (.slice a n c) (fun x => f x || decide (x = q)) (40 + 40) ∧ Sw wx (.slice a' n' c') (fun x => g x && !decide (x = q)) (40 + 2 * 40) := hd 8 (some 32) (by kernel_rfl) (by rfl)
      simp only [List.getElem_toArray, List.getElem_cons_zero, List.getElem_cons_succ, Act.put, List.setIfInBounds_toArray, List.set_cons_zero, List.set_cons_succ, e32] at hK ⊢
      have n1 := Sw.len S27
      have n2 := Sw.len S31
      go_simp
      go_at_call 66
      refine (reflimited_any _ _ _ _ _ _ (by omega) (by omega) _).mono ?_
      rintro e w1 ⟨rfl, hb⟩
      dsimp only
      exact hK.out _ _ (Buf.then_ hw hb) hb (⟨_, _, _, _, _, _, rfl, S27.keep hb, S31.keep hb⟩)
    refine Inv.Steps.go (by decide) (by rfl) (fun σ wx hw hd K hK => ?_) ?_
    · obtain ⟨ua, un, uc, va, vn, vc, e33, S27, S31⟩ : ∃ a n c a' n' c', (σ 33) = .tuple #[.agg #[.slice a n c, .slice a' n' c'], .int .i64 0] ∧ Sw wx (.slice a n c) (fun x => f x || decide (x = q)) (40 + 40) ∧ Sw wx (.slice a' n' c') (fun x => g x && !decide (x = q)) (40 + 2 * 40) := hd 9 (some 33) (by kernel_rfl) (by rfl)
      simp only [List.getElem_toArray, List.getElem_cons_zero, List.getElem_cons_succ, Act.put, List.setIfInBounds_toArray, List.set_cons_zero, List.set_cons_succ, e33] at hK ⊢
      go_simp
      exact hK.out _ _ hw (Below.refl _ _) (⟨_, _, _, _, _, _, rfl, S27, S31⟩)
    refine Inv.Steps.go (by decide) (by rfl) (fun σ wx hw hd K hK => ?_) ?_
    · obtain ⟨ua, un, uc, va, vn, vc, e23, S27, S31⟩ : ∃ a n c a' n' c', (σ 23) = .tuple #[.agg #[.slice a n c, .slice a' n' c'], .int .i64 0] ∧ Sw wx (.slice a n c) (fun x => f x || decide (x = q)) (40 + 40) ∧ Sw wx (.slice a' n' c') (fun x => g x && !decide (x = q)) (40 + 2 * 40) := hd 10 (some 23) (by kernel_rfl) (by rfl)
      simp only [List.getElem_toArray, List.getElem_cons_zero, List.getElem_cons_succ, Act.put, List.setIfInBounds_toArray, List.set_cons_zero, List.set_cons_succ, e23] at hK ⊢
      go_simp
      exact hK.out _ _ hw (Below.refl _ _) (⟨_, _, _, _, _, _, rfl, S27, S31⟩)
    refine Inv.Steps.go (by decide) (by rfl) (fun σ wx hw hd K hK => ?_) ?_
    · obtain ⟨ua, un, uc, va, vn, vc, e23, S27, S31⟩ : ∃ a n c a' n' c', (σ 23) = .tuple #[.agg #[.slice a n c, .slice a' n' c'], .int .i64 0] ∧ Sw wx (.slice a n c) (fun x => f x || decide (x = q)) (40 + 40) ∧ Sw wx (.slice a' n' c') (fun x => g x && !decide (x = q)) (40 + 2 * 40) := hd 10 (some 23) (by kernel_rfl) (by rfl)
      simp only [List.getElem_toArray, List.getElem_cons_zero, List.getElem_cons_succ, Act.put, List.setIfInBounds_toArray, List.set_cons_zero, List.set_cons_succ, e23] at hK ⊢
      go_simp
      exact hK.out _ _ hw (Below.refl _ _) (rfl)
    refine Inv.Steps.go (by decide) (by rfl) (fun σ wx hw hd K hK => ?_) ?_
    · simp only [List.getElem_toArray, List.getElem_cons_zero, List.getElem_cons_succ, Act.put, List.setIfInBounds_toArray, List.set_cons_zero, List.set_cons_succ] at hK ⊢
      go_simp
      exact hK.out _ _ (Buf.then_ hw (new_block _)) (new_block _) (⟨_, rfl, heap_alloc_new _ _, hw.size⟩)
    exact Inv.Steps.nil
  · intro b1 b2 σ wx hw hd
    cases b1
    · obtain ⟨ua, un, uc, va, vn, vc, e34, S27, S31⟩ : ∃ a n c a' n' c', (σ 34) = .agg #[.slice a n c, .slice a' n' c'] ∧ Sw wx (.slice a n c) (fun x => f x || decide (x = q)) (40 + 40) ∧ Sw wx (.slice a' n' c') (fun x => g x && !decide (x = q)) (40 + 2 * 40) := hd 11 (some 34) (by kernel_rfl) (by decide) (fun h => absurd h (by decide)) (by rfl)
      obtain ⟨p, e8, P8, p0⟩ : ∃ p, (σ 8) = .pointer (some ⟨p, 0, none⟩) ∧ wx.heap[p]? = some (.cells #[.slice none 0 0, .slice none 0 0] 46 (0, 0)) ∧ wS.heap.size ≤ p := hd 13 (some 8) (by kernel_rfl) (by decide) (fun h => absurd h (by decide)) (by rfl)
      have H9 : ∃ a n c a' n' c', (σ 23) = .tuple #[.agg #[.slice a n c, .slice a' n' c'], .int .i64 0] ∧ Sw wx (.slice a n c) (fun x => f x || decide (x = q)) (40 + 40) ∧ Sw wx (.slice a' n' c') (fun x => g x && !decide (x = q)) (40 + 2 * 40) := hd 10 (some 23) (by kernel_rfl) (by decide) (fun h => absurd h (by decide)) (by rfl)
      obtain ⟨ua2, un2, uc2, va2, vn2, vc2, e23, _, _⟩ := H9
      simp only [e34, e8, e23]
      refine Inv.take (i := 12) (v := .int .i64 0) (by decide) rfl (by kernel_rfl) (by kernel_rfl) (by kernel_rfl) (fun _ _ _ h => h) (by rfl) (fun w' => ?_) ?_
      · simp only [List.getElem_toArray, List.getElem_cons_zero, List.getElem_cons_succ]
        go_simp
      try simp only [Act.put, List.setIfInBounds_toArray, List.set_cons_zero, List.set_cons_succ]
      obtain ⟨k0, k1_⟩ := Spn.c2 P8
      have f0 := frozen_of_row wx p 0 _ _ P8
      have f1 := frozen_of_row wx p 1 _ _ P8
      refine Inv.one (i := 14) (by decide) (by kernel_rfl) (by rfl) (fun K hK => ?_)
      simp only [List.getElem_toArray, List.getElem_cons_zero, List.getElem_cons_succ, Act.put, List.setIfInBounds_toArray, List.set_cons_zero, List.set_cons_succ] at hK ⊢
      go_simp
      refine hK.out _ _ ?_
      clear hK K
      refine Inv.take (i := 15) (v := .int .i64 0) (by decide) rfl (by kernel_rfl) (by kernel_rfl) (by kernel_rfl) (fun _ _ _ h => h) (by rfl) (fun w' => ?_) ?_
      · simp only [List.getElem_toArray, List.getElem_cons_zero, List.getElem_cons_succ]
        go_simp
      try simp only [Act.put, List.setIfInBounds_toArray, List.set_cons_zero, List.set_cons_succ]
      refine Inv.done (by kernel_rfl) (NoPanic.normal ?_)
      have Q8 := (heap_setCell_same wx p 0 _ _ (.slice ua un uc) P8).trans rfl
      have Z := Lib.hid ((heap_setCell_same (wx.setCell ⟨p, 0, none⟩ (.slice ua un uc)) p 1 _ _ (.slice va vn vc) Q8).trans rfl)
      have NT := Lib.hid (Sw.short (Sw.set (Sw.set S27 P8 (o := 0) (.slice ua un uc)) Q8 (o := 1) (.slice va vn vc)) (by omega))
      have NU := Lib.hid (Sw.short (Sw.set (Sw.set S31 P8 (o := 0) (.slice ua un uc)) Q8 (o := 1) (.slice va vn vc)) (by omega))
      have BZ := Lib.hid ((hw.setCell (p := ⟨p, 0, none⟩) p0 (.slice ua un uc)).setCell (p := ⟨p, 1, none⟩) p0 (.slice va vn vc))
      clear k0 k1_ f0 f1 P8 S27 S31 hd hw e34 e8 Q8
      generalize (wx.setCell ⟨p, 0, none⟩ (.slice ua un uc)).setCell ⟨p, 1, none⟩ (.slice va vn vc) = wT at *
      go_upto_region 9 with fail
      have hw0 : Below wT.heap.size wT wT.drew := (Below.refl _ _).drew
      refine wp_region_noPanic ?_
      refine wp_region_any (by kernel_rfl) ?_
      refine Inv.wpAny_inv2 (fun k => k == 6 || k == 7 || k == 8) 5 99 [40, 41, 42, 43, 44, 45] (fun w' => Below wT.heap.size wT w') (fun _ w1 w2 => Below w1.heap.size w1 w2) (fun k => ([fun v_ w_ => v_ = .agg #[.slice ua un uc, .slice va vn vc], fun v_ w_ => v_ = .pointer (some ⟨bb, 0, none⟩), fun v_ w_ => v_ = .slice ga gn gc, fun v_ w_ => v_ = .int .i64 q, fun v_ w_ => v_ = .bool (f q), fun v_ w_ => v_ = .bool (!(f q)), fun v_ w_ => True, fun v_ w_ => True, fun v_ w_ => True] : List (Value → World → Prop)).getD k (fun _ _ => True)) _ (fun σ => by simp only [Inv.putAll, List.foldl_cons, List.foldl_nil, Act.put, List.setIfInBounds_toArray, List.set_cons_zero, List.set_cons_succ]; rfl) (by kernel_rfl) (by kernel_rfl) (by decide) ?_ hw0 ?_ ?_ (fun b1 b2 => cond b1 3 4) (fun b1 b2 => #[true, true, true, true, true, b1, false, false, false]) (by intro b1 b2; cases b1 <;> cases b2 <;> kernel_rfl) (by intro b1 b2; cases b1 <;> cases b2 <;> kernel_rfl) (by exact ⟨rfl, rfl⟩) ?_
      · intro j k v w1 w2 hjk hv hr
        rcases k with _ | k
        · exact hv
        rcases k with _ | k
        · exact hv
        rcases k with _ | k
        · exact hv
        rcases k with _ | k
        · exact hv
        rcases k with _ | k
        · exact hv
        rcases k with _ | k
        · exact hv
        rcases k with _ | k
        · exact hv
        rcases k with _ | k
        · exact hv
        rcases k with _ | k
        · exact hv
        · exact hv
      · intro k t hl hd
        rcases k with _ | k
        · exact absurd hl (by decide +kernel)
        rcases k with _ | k
        · exact absurd hl (by decide +kernel)
        rcases k with _ | k
        · exact absurd hl (by decide +kernel)
        rcases k with _ | k
        · exact absurd hl (by decide +kernel)
        rcases k with _ | k
        · exact absurd hl (by decide +kernel)
        rcases k with _ | k
        · exact absurd hl (by decide +kernel)
        rcases k with _ | k
        · exact absurd hl (by decide +kernel)
        rcases k with _ | k
        · exact absurd hl (by decide +kernel)
        rcases k with _ | k
        · exact absurd hl (by decide +kernel)
        · simp at hd
      · show Inv.Steps _ _ _ _ _ _ _ _ [0, 1, 2, 3, 4, 5]
        refine Inv.Steps.go (by decide) (by rfl) (fun σ wx hw hd K hK => ?_) ?_
        · simp only [List.getElem_toArray, List.getElem_cons_zero, List.getElem_cons_succ, Act.put, List.setIfInBounds_toArray, List.set_cons_zero, List.set_cons_succ] at hK ⊢
          have Zx := hop hw Z.out
          obtain ⟨q0_, q1_⟩ := Spn.c2 Zx
          go_simp
          exact hK.out _ _ hw (Below.refl _ _) (rfl)
        refine Inv.Steps.go (by decide) (by rfl) (fun σ wx hw hd K hK => ?_) ?_
        · simp only [List.getElem_toArray, List.getElem_cons_zero, List.getElem_cons_succ, Act.put, List.setIfInBounds_toArray, List.set_cons_zero, List.set_cons_succ] at hK ⊢
          go_simp
          exact hK.out _ _ hw (Below.refl _ _) (rfl)
        refine Inv.Steps.go (by decide) (by rfl) (fun σ wx hw hd K hK => ?_) ?_
        · obtain e41 : (σ 41) = .pointer (some ⟨bb, 0, none⟩) := hd 1 (some 41) (by kernel_rfl) (by rfl)
          simp only [List.getElem_toArray, List.getElem_cons_zero, List.getElem_cons_succ, Act.put, List.setIfInBounds_toArray, List.set_cons_zero, List.set_cons_succ, e41] at hK ⊢
          obtain ⟨k0, k1_⟩ := PB.out _ (Buf.then_ BZ.out hw)
          go_simp
          exact hK.out _ _ hw (Below.refl _ _) (rfl)
        refine Inv.Steps.go (by decide) (by rfl) (fun σ wx hw hd K hK => ?_) ?_
        · simp only [List.getElem_toArray, List.getElem_cons_zero, List.getElem_cons_succ, Act.put, List.setIfInBounds_toArray, List.set_cons_zero, List.set_cons_succ] at hK ⊢
          go_simp
          exact hK.out _ _ hw (Below.refl _ _) (rfl)
        refine Inv.Steps.go (by decide) (by rfl) (fun σ wx hw hd K hK => ?_) ?_
        · obtain e42 : (σ 42) = .slice ga gn gc := hd 2 (some 42) (by kernel_rfl) (by rfl)
          obtain e43 : (σ 43) = .int .i64 q := hd 3 (some 43) (by kernel_rfl) (by rfl)
          simp only [List.getElem_toArray, List.getElem_cons_zero, List.getElem_cons_succ, Act.put, List.setIfInBounds_toArray, List.set_cons_zero, List.set_cons_succ, e42, e43] at hK ⊢
          go_simp
          go_at_call 28
          refine (refhas_sw q (RG.out _ (Buf.then_ BZ.out hw)).rv (by omega)).mono ?_
          rintro e w1 ⟨rfl, hb⟩
          dsimp only
          exact hK.out _ _ (Buf.then_ hw hb) hb (rfl)
        refine Inv.Steps.go (by decide) (by rfl) (fun σ wx hw hd K hK => ?_) ?_
        · obtain e44 : (σ 44) = .bool (f q) := hd 4 (some 44) (by kernel_rfl) (by rfl)
          simp only [List.getElem_toArray, List.getElem_cons_zero, List.getElem_cons_succ, Act.put, List.setIfInBounds_toArray, List.set_cons_zero, List.set_cons_succ, e44] at hK ⊢
          go_simp
          exact hK.out _ _ hw (Below.refl _ _) (rfl)
        exact Inv.Steps.nil
      · intro b1 b2 σ wx hw hd
        cases b1
        · obtain e40 : (σ 40) = .agg #[.slice ua un uc, .slice va vn vc] := hd 0 (some 40) (by kernel_rfl) (by decide) (fun h => absurd h (by decide)) (by rfl)
          obtain e44 : (σ 44) = .bool (f q) := hd 4 (some 44) (by kernel_rfl) (by decide) (fun h => absurd h (by decide)) (by rfl)
          simp only [e40, e44]
          refine Inv.take (i := 5) (v := .bool (!(f q))) (by decide) rfl (by kernel_rfl) (by kernel_rfl) (by kernel_rfl) (fun _ _ _ h => h) (by rfl) (fun w' => ?_) ?_
          · simp only [List.getElem_toArray, List.getElem_cons_zero, List.getElem_cons_succ]
            go_simp
          try simp only [Act.put, List.setIfInBounds_toArray, List.set_cons_zero, List.set_cons_succ]
          have P4 := hop (Buf.then_ BZ.out hw) PR.out
          obtain ⟨k0, k1_⟩ := Spn.c2 P4
          have f0 := frozen_of_row wx br 0 _ _ P4
          have f1 := frozen_of_row wx br 1 _ _ P4
          refine Inv.one (i := 6) (by decide) (by kernel_rfl) (by rfl) (fun K hK => ?_)
          simp only [List.getElem_toArray, List.getElem_cons_zero, List.getElem_cons_succ, Act.put, List.setIfInBounds_toArray, List.set_cons_zero, List.set_cons_succ] at hK ⊢
          go_simp
          refine hK.out _ _ ?_
          clear hK K
          refine Inv.take (i := 7) (v := .bool (!(f q))) (by decide) rfl (by kernel_rfl) (by kernel_rfl) (by kernel_rfl) (fun _ _ _ h => h) (by rfl) (fun w' => ?_) ?_
          · simp only [List.getElem_toArray, List.getElem_cons_zero, List.getElem_cons_succ]
            go_simp
          try simp only [Act.put, List.setIfInBounds_toArray, List.set_cons_zero, List.set_cons_succ]
          refine Inv.take (i := 8) (v := .int .i64 0) (by decide) rfl (by kernel_rfl) (by kernel_rfl) (by kernel_rfl) (fun _ _ _ h => h) (by rfl) (fun w' => ?_) ?_
          · simp only [List.getElem_toArray, List.getElem_cons_zero, List.getElem_cons_succ]
            go_simp
          try simp only [Act.put, List.setIfInBounds_toArray, List.set_cons_zero, List.set_cons_succ]
          refine Inv.done (by kernel_rfl) (NoPanic.normal ?_)
          have Q4 := (heap_setCell_same wx br 0 _ _ (.slice ua un uc) P4).trans rfl
          have Z4 := (heap_setCell_same (wx.setCell ⟨br, 0, none⟩ (.slice ua un uc)) br 1 _ _ (.slice va vn vc) Q4).trans rfl
          have RR := Lib.hid (show Rd _ _ _ _ _ from ⟨Sw.set (Sw.set (NT.out.keep hw) P4 (o := 0) (.slice ua un uc)) Q4 (o := 1) (.slice va vn vc), Sw.set (Sw.set (NU.out.keep hw) P4 (o := 0) (.slice ua un uc)) Q4 (o := 1) (.slice va vn vc), AP2.out⟩)
          have BQ := Lib.hid (((BS.out.trans ((Buf.then_ BZ.out hw).mono BS.out.size)).setCell (p := ⟨br, 0, none⟩) hbr (.slice ua un uc)).setCell (p := ⟨br, 1, none⟩) hbr (.slice va vn vc))
          clear k0 k1_ f0 f1 P4 Q4 hd hw e40
          generalize (wx.setCell ⟨br, 0, none⟩ (.slice ua un uc)).setCell ⟨br, 1, none⟩ (.slice va vn vc) = wU at *
          obtain ⟨k0, k1_⟩ := Spn.c2 Z4
          clear Z4
          go_wp2_with fail
          refine bodyPost_ret (v := .tuple #[.agg #[.slice ua un uc, .slice va vn vc], .bool (!(f q)), .int .i64 0]) (by simp [results, Try.results40, go_sem, k0, k1_]) rfl ⟨⟨_, _, rfl, RR.out⟩, BQ.out⟩
        · obtain e40 : (σ 40) = .agg #[.slice ua un uc, .slice va vn vc] := hd 0 (some 40) (by kernel_rfl) (by decide) (fun h => absurd h (by decide)) (by rfl)
          obtain e45 : (σ 45) = .bool (!(f q)) := hd 5 (some 45) (by kernel_rfl) (by decide) (fun h => absurd h (by decide)) (by rfl)
          simp only [e40, e45]
          have P4 := hop (Buf.then_ BZ.out hw) PR.out
          obtain ⟨k0, k1_⟩ := Spn.c2 P4
          have f0 := frozen_of_row wx br 0 _ _ P4
          have f1 := frozen_of_row wx br 1 _ _ P4
          refine Inv.one (i := 6) (by decide) (by kernel_rfl) (by rfl) (fun K hK => ?_)
          simp only [List.getElem_toArray, List.getElem_cons_zero, List.getElem_cons_succ, Act.put, List.setIfInBounds_toArray, List.set_cons_zero, List.set_cons_succ] at hK ⊢
          go_simp
          refine hK.out _ _ ?_
          clear hK K
          refine Inv.take (i := 7) (v := .bool (!(f q))) (by decide) rfl (by kernel_rfl) (by kernel_rfl) (by kernel_rfl) (fun _ _ _ h => h) (by rfl) (fun w' => ?_) ?_
          · simp only [List.getElem_toArray, List.getElem_cons_zero, List.getElem_cons_succ]
            go_simp
          try simp only [Act.put, List.setIfInBounds_toArray, List.set_cons_zero, List.set_cons_succ]
          refine Inv.take (i := 8) (v := .int .i64 0) (by decide) rfl (by kernel_rfl) (by kernel_rfl) (by kernel_rfl) (fun _ _ _ h => h) (by rfl) (fun w' => ?_) ?_
          · simp only [List.getElem_toArray, List.getElem_cons_zero, List.getElem_cons_succ]
            go_simp
          try simp only [Act.put, List.setIfInBounds_toArray, List.set_cons_zero, List.set_cons_succ]
          refine Inv.done (by kernel_rfl) (NoPanic.normal ?_)
          have Q4 := (heap_setCell_same wx br 0 _ _ (.slice ua un uc) P4).trans rfl
          have Z4 := (heap_setCell_same (wx.setCell ⟨br, 0, none⟩ (.slice ua un uc)) br 1 _ _ (.slice va vn vc) Q4).trans rfl
          have RR := Lib.hid (show Rd _ _ _ _ _ from ⟨Sw.set (Sw.set (NT.out.keep hw) P4 (o := 0) (.slice ua un uc)) Q4 (o := 1) (.slice va vn vc), Sw.set (Sw.set (NU.out.keep hw) P4 (o := 0) (.slice ua un uc)) Q4 (o := 1) (.slice va vn vc), AP2.out⟩)
          have BQ := Lib.hid (((BS.out.trans ((Buf.then_ BZ.out hw).mono BS.out.size)).setCell (p := ⟨br, 0, none⟩) hbr (.slice ua un uc)).setCell (p := ⟨br, 1, none⟩) hbr (.slice va vn vc))
          clear k0 k1_ f0 f1 P4 Q4 hd hw e40
          generalize (wx.setCell ⟨br, 0, none⟩ (.slice ua un uc)).setCell ⟨br, 1, none⟩ (.slice va vn vc) = wU at *
          obtain ⟨k0, k1_⟩ := Spn.c2 Z4
          clear Z4
          go_wp2_with fail
          refine bodyPost_ret (v := .tuple #[.agg #[.slice ua un uc, .slice va vn vc], .bool (!(f q)), .int .i64 0]) (by simp [results, Try.results40, go_sem, k0, k1_]) rfl ⟨⟨_, _, rfl, RR.out⟩, BQ.out⟩
    · obtain ⟨ua, un, uc, va, vn, vc, e34, S27, S31⟩ : ∃ a n c a' n' c', (σ 34) = .agg #[.slice a n c, .slice a' n' c'] ∧ Sw wx (.slice a n c) (fun x => f x || decide (x = q)) (40 + 40) ∧ Sw wx (.slice a' n' c') (fun x => g x && !decide (x = q)) (40 + 2 * 40) := hd 11 (some 34) (by kernel_rfl) (by decide) (fun h => absurd h (by decide)) (by rfl)
      obtain ⟨p, e8, P8, p0⟩ : ∃ p, (σ 8) = .pointer (some ⟨p, 0, none⟩) ∧ wx.heap[p]? = some (.cells #[.slice none 0 0, .slice none 0 0] 46 (0, 0)) ∧ wS.heap.size ≤ p := hd 13 (some 8) (by kernel_rfl) (by decide) (fun h => absurd h (by decide)) (by rfl)
      obtain e35 : (σ 35) = .int .i64 0 := hd 12 (some 35) (by kernel_rfl) (by decide) (fun h => absurd h (by decide)) (by rfl)
      simp only [e34, e8, e35]
      obtain ⟨k0, k1_⟩ := Spn.c2 P8
      have f0 := frozen_of_row wx p 0 _ _ P8
      have f1 := frozen_of_row wx p 1 _ _ P8
      refine Inv.one (i := 14) (by decide) (by kernel_rfl) (by rfl) (fun K hK => ?_)
      simp only [List.getElem_toArray, List.getElem_cons_zero, List.getElem_cons_succ, Act.put, List.setIfInBounds_toArray, List.set_cons_zero, List.set_cons_succ] at hK ⊢
      go_simp
      refine hK.out _ _ ?_
      clear hK K
      refine Inv.take (i := 15) (v := .int .i64 0) (by decide) rfl (by kernel_rfl) (by kernel_rfl) (by kernel_rfl) (fun _ _ _ h => h) (by rfl) (fun w' => ?_) ?_
      · simp only [List.getElem_toArray, List.getElem_cons_zero, List.getElem_cons_succ]
        go_simp
      try simp only [Act.put, List.setIfInBounds_toArray, List.set_cons_zero, List.set_cons_succ]
      refine Inv.done (by kernel_rfl) (NoPanic.normal ?_)
      have Q8 := (heap_setCell_same wx p 0 _ _ (.slice ua un uc) P8).trans rfl
      have Z := Lib.hid ((heap_setCell_same (wx.setCell ⟨p, 0, none⟩ (.slice ua un uc)) p 1 _ _ (.slice va vn vc) Q8).trans rfl)
      have NT := Lib.hid (Sw.short (Sw.set (Sw.set S27 P8 (o := 0) (.slice ua un uc)) Q8 (o := 1) (.slice va vn vc)) (by omega))
      have NU := Lib.hid (Sw.short (Sw.set (Sw.set S31 P8 (o := 0) (.slice ua un uc)) Q8 (o := 1) (.slice va vn vc)) (by omega))
      have BZ := Lib.hid ((hw.setCell (p := ⟨p, 0, none⟩) p0 (.slice ua un uc)).setCell (p := ⟨p, 1, none⟩) p0 (.slice va vn vc))
      clear k0 k1_ f0 f1 P8 S27 S31 hd hw e34 e8 Q8
      generalize (wx.setCell ⟨p, 0, none⟩ (.slice ua un uc)).setCell ⟨p, 1, none⟩ (.slice va vn vc) = wT at *
      go_upto_region 9 with fail
      have hw0 : Below wT.heap.size wT wT.drew := (Below.refl _ _).drew
      refine wp_region_noPanic ?_
      refine wp_region_any (by kernel_rfl) ?_
      refine Inv.wpAny_inv2 (fun k => k == 6 || k == 7 || k == 8) 5 99 [40, 41, 42, 43, 44, 45] (fun w' => Below wT.heap.size wT w') (fun _ w1 w2 => Below w1.heap.size w1 w2) (fun k => ([fun v_ w_ => v_ = .agg #[.slice ua un uc, .slice va vn vc], fun v_ w_ => v_ = .pointer (some ⟨bb, 0, none⟩), fun v_ w_ => v_ = .slice ga gn gc, fun v_ w_ => v_ = .int .i64 q, fun v_ w_ => v_ = .bool (f q), fun v_ w_ => v_ = .bool (!(f q)), fun v_ w_ => True, fun v_ w_ => True, fun v_ w_ => True] : List (Value → World → Prop)).getD k (fun _ _ => True)) _ (fun σ => by simp only [Inv.putAll, List.foldl_cons, List.foldl_nil, Act.put, List.setIfInBounds_toArray, List.set_cons_zero, List.set_cons_succ]; rfl) (by kernel_rfl) (by kernel_rfl) (by decide) ?_ hw0 ?_ ?_ (fun b1 b2 => cond b1 3 4) (fun b1 b2 => #[true, true, true, true, true, b1, false, false, false]) (by intro b1 b2; cases b1 <;> cases b2 <;> kernel_rfl) (by intro b1 b2; cases b1 <;> cases b2 <;> kernel_rfl) (by exact ⟨rfl, rfl⟩) ?_
      · intro j k v w1 w2 hjk hv hr
        rcases k with _ | k
        · exact hv
        rcases k with _ | k
        · exact hv
        rcases k with _ | k
        · exact hv
        rcases k with _ | k
        · exact hv
        rcases k with _ | k
        · exact hv
        rcases k with _ | k
        · exact hv
        rcases k with _ | k
        · exact hv
        rcases k with _ | k
        · exact hv
        rcases k with _ | k
        · exact hv
        · exact hv
      · intro k t hl hd
        rcases k with _ | k
        · exact absurd hl (by decide +kernel)
        rcases k with _ | k
        · exact absurd hl (by decide +kernel)
        rcases k with _ | k
        · exact absurd hl (by decide +kernel)
        rcases k with _ | k
        · exact absurd hl (by decide +kernel)
        rcases k with _ | k
        · exact absurd hl (by decide +kernel)
        rcases k with _ | k
        · exact absurd hl (by decide +kernel)
        rcases k with _ | k
        · exact absurd hl (by decide +kernel)
        rcases k with _ | k
        · exact absurd hl (by decide +kernel)
        rcases k with _ | k
        · exact absurd hl (by decide +kernel)
        · simp at hd
      · show Inv.Steps _ _ _ _ _ _ _ _ [0, 1, 2, 3, 4, 5]
        refine Inv.Steps.go (by decide) (by rfl) (fun σ wx hw hd K hK => ?_) ?_
        · simp only [List.getElem_toArray, List.getElem_cons_zero, List.getElem_cons_succ, Act.put, List.setIfInBounds_toArray, List.set_cons_zero, List.set_cons_succ] at hK ⊢
          have Zx := hop hw Z.out
          obtain ⟨q0_, q1_⟩ := Spn.c2 Zx
          go_simp
          exact hK.out _ _ hw (Below.refl _ _) (rfl)
        refine Inv.Steps.go (by decide) (by rfl) (fun σ wx hw hd K hK => ?_) ?_
        · simp only [List.getElem_toArray, List.getElem_cons_zero, List.getElem_cons_succ, Act.put, List.setIfInBounds_toArray, List.set_cons_zero, List.set_cons_succ] at hK ⊢
          go_simp
          exact hK.out _ _ hw (Below.refl _ _) (rfl)
        refine Inv.Steps.go (by decide) (by rfl) (fun σ wx hw hd K hK => ?_) ?_
        · obtain e41 : (σ 41) = .pointer (some ⟨bb, 0, none⟩) := hd 1 (some 41) (by kernel_rfl) (by rfl)
          simp only [List.getElem_toArray, List.getElem_cons_zero, List.getElem_cons_succ, Act.put, List.setIfInBounds_toArray, List.set_cons_zero, List.set_cons_succ, e41] at hK ⊢
          obtain ⟨k0, k1_⟩ := PB.out _ (Buf.then_ BZ.out hw)
          go_simp
          exact hK.out _ _ hw (Below.refl _ _) (rfl)
        refine Inv.Steps.go (by decide) (by rfl) (fun σ wx hw hd K hK => ?_) ?_
        · simp only [List.getElem_toArray, List.getElem_cons_zero, List.getElem_cons_succ, Act.put, List.setIfInBounds_toArray, List.set_cons_zero, List.set_cons_succ] at hK ⊢
          go_simp
          exact hK.out _ _ hw (Below.refl _ _) (rfl)
        refine Inv.Steps.go (by decide) (by rfl) (fun σ wx hw hd K hK => ?_) ?_
        · obtain e42 : (σ 42) = .slice ga gn gc := hd 2 (some 42) (by kernel_rfl) (by rfl)
          obtain e43 : (σ 43) = .int .i64 q := hd 3 (some 43) (by kernel_rfl) (by rfl)
          simp only [List.getElem_toArray, List.getElem_cons_zero, List.getElem_cons_succ, Act.put, List.setIfInBounds_toArray, List.set_cons_zero, List.set_cons_succ, e42, e43] at hK ⊢
          go_simp
          go_at_call 28
          refine (refhas_sw q (RG.out _ (Buf.then_ BZ.out hw)).rv (by omega)).mono ?_
          rintro e w1 ⟨rfl, hb⟩
          dsimp only
          exact hK.out _ _ (Buf.then_ hw hb) hb (rfl)
        refine Inv.Steps.go (by decide) (by rfl) (fun σ wx hw hd K hK => ?_) ?_
        · obtain e44 : (σ 44) = .bool (f q) := hd 4 (some 44) (by kernel_rfl) (by rfl)
          simp only [List.getElem_toArray, List.getElem_cons_zero, List.getElem_cons_succ, Act.put, List.setIfInBounds_toArray, List.set_cons_zero, List.set_cons_succ, e44] at hK ⊢
          go_simp
          exact hK.out _ _ hw (Below.refl _ _) (rfl)
        exact Inv.Steps.nil
      · intro b1 b2 σ wx hw hd
        cases b1
        · obtain e40 : (σ 40) = .agg #[.slice ua un uc, .slice va vn vc] := hd 0 (some 40) (by kernel_rfl) (by decide) (fun h => absurd h (by decide)) (by rfl)
          obtain e44 : (σ 44) = .bool (f q) := hd 4 (some 44) (by kernel_rfl) (by decide) (fun h => absurd h (by decide)) (by rfl)
          simp only [e40, e44]
          refine Inv.take (i := 5) (v := .bool (!(f q))) (by decide) rfl (by kernel_rfl) (by kernel_rfl) (by kernel_rfl) (fun _ _ _ h => h) (by rfl) (fun w' => ?_) ?_
          · simp only [List.getElem_toArray, List.getElem_cons_zero, List.getElem_cons_succ]
            go_simp
          try simp only [Act.put, List.setIfInBounds_toArray, List.set_cons_zero, List.set_cons_succ]
          have P4 := hop (Buf.then_ BZ.out hw) PR.out
          obtain ⟨k0, k1_⟩ := Spn.c2 P4
          have f0 := frozen_of_row wx br 0 _ _ P4
          have f1 := frozen_of_row wx br 1 _ _ P4
          refine Inv.one (i := 6) (by decide) (by kernel_rfl) (by rfl) (fun K hK => ?_)
          simp only [List.getElem_toArray, List.getElem_cons_zero, List.getElem_cons_succ, Act.put, List.setIfInBounds_toArray, List.set_cons_zero, List.set_cons_succ] at hK ⊢
          go_simp
          refine hK.out _ _ ?_
          clear hK K
          refine Inv.take (i := 7) (v := .bool (!(f q))) (by decide) rfl (by kernel_rfl) (by kernel_rfl) (by kernel_rfl) (fun _ _ _ h => h) (by rfl) (fun w' => ?_) ?_
          · simp only [List.getElem_toArray, List.getElem_cons_zero, List.getElem_cons_succ]
            go_simp
          try simp only [Act.put, List.setIfInBounds_toArray, List.set_cons_zero, List.set_cons_succ]
          refine Inv.take (i := 8) (v := .int .i64 0) (by decide) rfl (by kernel_rfl) (by kernel_rfl) (by kernel_rfl) (fun _ _ _ h => h) (by rfl) (fun w' => ?_) ?_
          · simp only [List.getElem_toArray, List.getElem_cons_zero, List.getElem_cons_succ]
            go_simp
          try simp only [Act.put, List.setIfInBounds_toArray, List.set_cons_zero, List.set_cons_succ]
          refine Inv.done (by kernel_rfl) (NoPanic.normal ?_)
          have Q4 := (heap_setCell_same wx br 0 _ _ (.slice ua un uc) P4).trans rfl
          have Z4 := (heap_setCell_same (wx.setCell ⟨br, 0, none⟩ (.slice ua un uc)) br 1 _ _ (.slice va vn vc) Q4).trans rfl
          have RR := Lib.hid (show Rd _ _ _ _ _ from ⟨Sw.set (Sw.set (NT.out.keep hw) P4 (o := 0) (.slice ua un uc)) Q4 (o := 1) (.slice va vn vc), Sw.set (Sw.set (NU.out.keep hw) P4 (o := 0) (.slice ua un uc)) Q4 (o := 1) (.slice va vn vc), AP2.out⟩)
          have BQ := Lib.hid (((BS.out.trans ((Buf.then_ BZ.out hw).mono BS.out.size)).setCell (p := ⟨br, 0, none⟩) hbr (.slice ua un uc)).setCell (p := ⟨br, 1, none⟩) hbr (.slice va vn vc))
          clear k0 k1_ f0 f1 P4 Q4 hd hw e40
          generalize (wx.setCell ⟨br, 0, none⟩ (.slice ua un uc)).setCell ⟨br, 1, none⟩ (.slice va vn vc) = wU at *
          obtain ⟨k0, k1_⟩ := Spn.c2 Z4
          clear Z4
          go_wp2_with fail
          refine bodyPost_ret (v := .tuple #[.agg #[.slice ua un uc, .slice va vn vc], .bool (!(f q)), .int .i64 0]) (by simp [results, Try.results40, go_sem, k0, k1_]) rfl ⟨⟨_, _, rfl, RR.out⟩, BQ.out⟩
        · obtain e40 : (σ 40) = .agg #[.slice ua un uc, .slice va vn vc] := hd 0 (some 40) (by kernel_rfl) (by decide) (fun h => absurd h (by decide)) (by rfl)
          obtain e45 : (σ 45) = .bool (!(f q)) := hd 5 (some 45) (by kernel_rfl) (by decide) (fun h => absurd h (by decide)) (by rfl)
          simp only [e40, e45]
          have P4 := hop (Buf.then_ BZ.out hw) PR.out
          obtain ⟨k0, k1_⟩ := Spn.c2 P4
          have f0 := frozen_of_row wx br 0 _ _ P4
          have f1 := frozen_of_row wx br 1 _ _ P4
          refine Inv.one (i := 6) (by decide) (by kernel_rfl) (by rfl) (fun K hK => ?_)
          simp only [List.getElem_toArray, List.getElem_cons_zero, List.getElem_cons_succ, Act.put, List.setIfInBounds_toArray, List.set_cons_zero, List.set_cons_succ] at hK ⊢
          go_simp
          refine hK.out _ _ ?_
          clear hK K
          refine Inv.take (i := 7) (v := .bool (!(f q))) (by decide) rfl (by kernel_rfl) (by kernel_rfl) (by kernel_rfl) (fun _ _ _ h => h) (by rfl) (fun w' => ?_) ?_
          · simp only [List.getElem_toArray, List.getElem_cons_zero, List.getElem_cons_succ]
            go_simp
          try simp only [Act.put, List.setIfInBounds_toArray, List.set_cons_zero, List.set_cons_succ]
          refine Inv.take (i := 8) (v := .int .i64 0) (by decide) rfl (by kernel_rfl) (by kernel_rfl) (by kernel_rfl) (fun _ _ _ h => h) (by rfl) (fun w' => ?_) ?_
          · simp only [List.getElem_toArray, List.getElem_cons_zero, List.getElem_cons_succ]
            go_simp
          try simp only [Act.put, List.setIfInBounds_toArray, List.set_cons_zero, List.set_cons_succ]
          refine Inv.done (by kernel_rfl) (NoPanic.normal ?_)
          have Q4 := (heap_setCell_same wx br 0 _ _ (.slice ua un uc) P4).trans rfl
          have Z4 := (heap_setCell_same (wx.setCell ⟨br, 0, none⟩ (.slice ua un uc)) br 1 _ _ (.slice va vn vc) Q4).trans rfl
          have RR := Lib.hid (show Rd _ _ _ _ _ from ⟨Sw.set (Sw.set (NT.out.keep hw) P4 (o := 0) (.slice ua un uc)) Q4 (o := 1) (.slice va vn vc), Sw.set (Sw.set (NU.out.keep hw) P4 (o := 0) (.slice ua un uc)) Q4 (o := 1) (.slice va vn vc), AP2.out⟩)
          have BQ := Lib.hid (((BS.out.trans ((Buf.then_ BZ.out hw).mono BS.out.size)).setCell (p := ⟨br, 0, none⟩) hbr (.slice ua un uc)).setCell (p := ⟨br, 1, none⟩) hbr (.slice va vn vc))
          clear k0 k1_ f0 f1 P4 Q4 hd hw e40
          generalize (wx.setCell ⟨br, 0, none⟩ (.slice ua un uc)).setCell ⟨br, 1, none⟩ (.slice va vn vc) = wU at *
          obtain ⟨k0, k1_⟩ := Spn.c2 Z4
          clear Z4
          go_wp2_with fail
          refine bodyPost_ret (v := .tuple #[.agg #[.slice ua un uc, .slice va vn vc], .bool (!(f q)), .int .i64 0]) (by simp [results, Try.results40, go_sem, k0, k1_]) rfl ⟨⟨_, _, rfl, RR.out⟩, BQ.out⟩
end Rx
end Go.Proofs.Ytfmhfhggogjbkaa
