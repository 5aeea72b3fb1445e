/- RfAL: texts joined. -/
import Derived.Test.YtfmhfhggogjbkaaRfU
import Derived.Test.YtfmhfhggogjbkaaInvB
import Derived.Test.YtfmhfhggogjbkaaRes
import Derived.Test.YtfmhfhggogjbkaaRfNP
import Derived.Test.YtfmhfhggogjbkaaRfEMG
import Derived.Test.YtfmhfhggogjbkaaRfM
import Derived.Test.YtfmhfhggogjbkaaRcvAE
import Derived.Lib.MinMax
import Derived.Deep.RegionHeld3
/- ref11.Accept. -/
set_option linter.unusedVariables false
set_option linter.unusedSimpArgs false
namespace Go.Proofs.Ytfmhfhggogjbkaa
open Go.RowKit Dice Wi
namespace Rcv
open Spn
set_option maxHeartbeats 8000000 in
set_option maxRecDepth 100000 in
theorem refaccept_any {w : World} {vg vl : Value} {f g : Int → Bool} (h : Rc w vg vl f g) (q : Int) (q0 : 0 ≤ q) (q9 : q < 60) :
    Calls Try.prog 40 #[.agg #[vg, vl], .int .i64 q] w fun e w' => Acc f g q w' e ∧ Below w.heap.size w w' := by
  obtain ⟨ga, gn, gc, rfl, _⟩ := Sv.form h.got
  obtain ⟨la, ln, lc, rfl, _⟩ := Sv.form h.lost
  have AP2 := Lib.hid (show ∀ x, ((fun x => f x || decide (x = q)) x && (fun x => g x && !decide (x = q)) x) = false from fun x => by
    have := h.apart x
    by_cases e : x = q <;> simp [e]
    simpa [e] using this)
  have HR := Lib.hid h
  clear h
  go_enter Try.func40, Try.ntmps40
  obtain ⟨bb, hbb⟩ : ∃ bb, bb = w.heap.size := ⟨_, rfl⟩
  obtain ⟨wb, hwb⟩ : ∃ wb, wb = (w.alloc (.cells #[.slice ga gn gc, .slice la ln lc] 46)).alloc (.cells #[.slice none 0 0, .slice none 0 0] 46) := ⟨_, rfl⟩
  have B0 := Lib.hid (show Below w.heap.size w wb by rw [hwb]; exact Buf.then_ (new_block _) (new_block _))
  have PX : wb.heap[bb]? = some (.cells #[.slice ga gn gc, .slice la ln lc] 46 (0, 0)) := by rw [hwb, hbb]; exact hop (new_block _) (heap_alloc_new w _)
  have PY : wb.heap[bb + 1]? = some (.cells #[.slice none 0 0, .slice none 0 0] 46 (0, 0)) := by
    have e : (w.alloc (.cells #[.slice ga gn gc, .slice la ln lc] 46)).heap.size = bb + 1 := by rw [hbb]; simp
    rw [hwb, ← e]; exact heap_alloc_new _ _
  obtain ⟨k0, k1⟩ := Spn.c2 PX
  have V := Lib.hid (refvalid11_yes (HR.out.keep B0.out))
  have PX' := Lib.hid PX
  have PY' := Lib.hid PY
  clear PX PY
  have wq : q + 1 ≤ 60 := by omega
  go_wp2_with fail
  rw [← hwb, ← hbb]
  refine V.out.mono ?_
  rintro e w1 ⟨rfl, hb⟩
  clear k0 k1 V
  replace PX' := Lib.hid (hop hb PX'.out)
  replace PY' := Lib.hid (hop hb PY'.out)
  replace B0 := Lib.hid (Buf.then_ B0.out hb)
  clear hb
  replace hwb := Lib.hid hwb
  replace hbb := Lib.hid hbb
  go_wp2_with (go_at_call 62; refine (refin_b _ _ _ _ (by omega) (by omega)).mono ?_; rintro e w' ⟨rfl, hweq⟩; subst hweq)
  obtain ⟨wS, hwS⟩ : ∃ wS, wS = w'.alloc (.cells #[.int .i64 q, .int .i64 (q + 1)] 49) := ⟨_, rfl⟩
  obtain ⟨bo, hbo⟩ : ∃ bo, bo = w'.heap.size := ⟨_, rfl⟩
  obtain ⟨br, hbr'⟩ : ∃ br, br = bb + 1 := ⟨_, rfl⟩
  have BX : Below w'.heap.size w' wS := by rw [hwS]; exact (Below.refl _ _).alloc (Nat.le_refl _) _
  have PO : wS.heap[bo]? = some (.cells #[.int .i64 q, .int .i64 (q + 1)] 49 (0, 0)) := by rw [hwS, hbo]; exact heap_alloc_new w' _
  have hbr : w.heap.size ≤ br := by have := hbb.out; omega
  rw [← hwS, ← hbo, ← hbr']
  rw [← hbr'] at PY'
  have BS := Lib.hid (Buf.then_ B0.out BX)
  have PBx := Lib.hid (hop BX PX'.out)
  have PR := Lib.hid (hop BX PY'.out)
  have PB := Lib.hid fun wx (hb : Below wS.heap.size wS wx) => Spn.c2 (hop hb PBx.out)
  have RG := Lib.hid fun wx (hb : Below wS.heap.size wS wx) => (HR.out.keep (Buf.then_ BS.out hb)).got
  have RL := Lib.hid fun wx (hb : Below wS.heap.size wS wx) => (HR.out.keep (Buf.then_ BS.out hb)).lost
  have RO := Lib.hid fun wx (hb : Below wS.heap.size wS wx) => Rcv.Sv.ext (g := fun x => decide (x = q)) (sv_one (hop hb PO) q0 (by omega) (by omega)) (fun x => decide_eq_decide.2 ⟨fun h => by omega, fun h => by omega⟩)
  clear BX PO B0 PX' PY' HR hwS hbo hbr' hwb hbb
  have hw0 : Below wS.heap.size wS wS.drew := (Below.refl _ _).drew
  refine wp_region_noPanic ?_
  refine wp_region_any (by kernel_rfl) ?_
  refine Inv.wpAny_inv2 (fun k => k == 14 || k == 15) 12 99 [24, 25, 26, 27, 28, 29, 30, 31, 32, 33, 23, 34, 35, 8] (fun w' => Below wS.heap.size wS w') (fun _ w1 w2 => Below w1.heap.size w1 w2) (fun k => ([fun v_ w_ => v_ = .pointer (some ⟨bb, 0, none⟩), fun v_ w_ => v_ = .slice ga gn gc, fun v_ w_ => v_ = .slice (some ⟨bo, 0, none⟩) 1 1, fun v_ w_ => ∃ a n c, v_ = .slice a n c ∧ Sv w_ (.slice a n c) (fun x => f x || decide (x = q)) (32 + 32), fun v_ w_ => v_ = .pointer (some ⟨bb, 1, none⟩), fun v_ w_ => v_ = .slice la ln lc, fun v_ w_ => v_ = .slice (some ⟨bo, 0, none⟩) 1 1, fun v_ w_ => ∃ a n c, v_ = .slice a n c ∧ Sv w_ (.slice a n c) (fun x => g x && !decide (x = q)) 32, fun v_ w_ => ∃ a n c a' n' c', v_ = .agg #[.slice a n c, .slice a' n' c'] ∧ Sv w_ (.slice a n c) (fun x => f x || decide (x = q)) (32 + 32) ∧ Sv w_ (.slice a' n' c') (fun x => g x && !decide (x = q)) 32, fun v_ w_ => ∃ a n c a' n' c', v_ = .tuple #[.agg #[.slice a n c, .slice a' n' c'], .int .i64 0] ∧ Sv w_ (.slice a n c) (fun x => f x || decide (x = q)) (32 + 32) ∧ Sv w_ (.slice a' n' c') (fun x => g x && !decide (x = q)) 32, fun v_ w_ => ∃ a n c a' n' c', v_ = .tuple #[.agg #[.slice a n c, .slice a' n' c'], .int .i64 0] ∧ Sv w_ (.slice a n c) (fun x => f x || decide (x = q)) (32 + 32) ∧ Sv w_ (.slice a' n' c') (fun x => g x && !decide (x = q)) 32, fun v_ w_ => ∃ a n c a' n' c', v_ = .agg #[.slice a n c, .slice a' n' c'] ∧ Sv w_ (.slice a n c) (fun x => f x || decide (x = q)) (32 + 32) ∧ Sv w_ (.slice a' n' c') (fun x => g x && !decide (x = q)) 32, fun v_ w_ => v_ = .int .i64 0, fun v_ w_ => ∃ p, v_ = .pointer (some ⟨p, 0, none⟩) ∧ w_.heap[p]? = some (.cells #[.slice none 0 0, .slice none 0 0] 46 (0, 0)) ∧ wS.heap.size ≤ p, fun v_ w_ => True, fun v_ w_ => True] : List (Value → World → Prop)).getD k (fun _ _ => True)) _ (fun σ => by simp only [Inv.putAll, List.foldl_cons, List.foldl_nil, Act.put, List.setIfInBounds_toArray, List.set_cons_zero, List.set_cons_succ]; rfl) (by kernel_rfl) (by kernel_rfl) (by decide) ?_ hw0 ?_ ?_ (fun b1 b2 => cond b1 2 3) (fun b1 b2 => #[true, true, true, true, true, true, true, true, true, true, true, true, b1, true, false, false]) (by intro b1 b2; cases b1 <;> cases b2 <;> kernel_rfl) (by intro b1 b2; cases b1 <;> cases b2 <;> kernel_rfl) (by exact ⟨rfl, rfl⟩) ?_
  · intro j k v w1 w2 hjk hv hr
    rcases k with _ | k
    · exact hv
    rcases k with _ | k
    · exact hv
    rcases k with _ | k
    · exact hv
    rcases k with _ | k
    · exact by obtain ⟨a, n, c, e, h⟩ := hv; exact ⟨a, n, c, e, h.keep hr⟩
    rcases k with _ | k
    · exact hv
    rcases k with _ | k
    · exact hv
    rcases k with _ | k
    · exact hv
    rcases k with _ | k
    · exact by obtain ⟨a, n, c, e, h⟩ := hv; exact ⟨a, n, c, e, h.keep hr⟩
    rcases k with _ | k
    · exact by obtain ⟨a, n, c, a', n', c', e, h, h'⟩ := hv; exact ⟨a, n, c, a', n', c', e, h.keep hr, h'.keep hr⟩
    rcases k with _ | k
    · exact by obtain ⟨a, n, c, a', n', c', e, h, h'⟩ := hv; exact ⟨a, n, c, a', n', c', e, h.keep hr, h'.keep hr⟩
    rcases k with _ | k
    · exact by obtain ⟨a, n, c, a', n', c', e, h, h'⟩ := hv; exact ⟨a, n, c, a', n', c', e, h.keep hr, h'.keep hr⟩
    rcases k with _ | k
    · exact by obtain ⟨a, n, c, a', n', c', e, h, h'⟩ := hv; exact ⟨a, n, c, a', n', c', e, h.keep hr, h'.keep hr⟩
    rcases k with _ | k
    · exact hv
    rcases k with _ | k
    · exact by obtain ⟨p, e, h, h0⟩ := hv; exact ⟨p, e, hop hr h, h0⟩
    rcases k with _ | k
    · exact hv
    rcases k with _ | k
    · exact hv
    · exact hv
  · intro k t hl hd
    rcases k with _ | k
    · exact absurd hl (by decide +kernel)
    rcases k with _ | k
    · exact absurd hl (by decide +kernel)
    rcases k with _ | k
    · exact absurd hl (by decide +kernel)
    rcases k with _ | k
    · exact absurd hl (by decide +kernel)
    rcases k with _ | k
    · exact absurd hl (by decide +kernel)
    rcases k with _ | k
    · exact absurd hl (by decide +kernel)
    rcases k with _ | k
    · exact absurd hl (by decide +kernel)
    rcases k with _ | k
    · exact absurd hl (by decide +kernel)
    rcases k with _ | k
    · exact absurd hl (by decide +kernel)
    rcases k with _ | k
    · exact absurd hl (by decide +kernel)
    rcases k with _ | k
    · exact absurd hl (by decide +kernel)
    rcases k with _ | k
    · exact absurd hl (by decide +kernel)
    rcases k with _ | k
    · exact absurd hl (by decide +kernel)
    rcases k with _ | k
    · exact absurd hl (by decide +kernel)
    rcases k with _ | k
    · exact absurd hl (by decide +kernel)
    rcases k with _ | k
    · exact absurd hl (by decide +kernel)
    · simp at hd
  · show Inv.Steps _ _ _ _ _ _ _ _ [0, 1, 2, 3, 4, 5, 6, 7, 8, 9, 10, 11, 12, 13]
    refine Inv.Steps.go (by decide) (by rfl) (fun σ wx hw hd K hK => ?_) ?_
    · simp only [List.getElem_toArray, List.getElem_cons_zero, List.getElem_cons_succ, Act.put, List.setIfInBounds_toArray, List.set_cons_zero, List.set_cons_succ] at hK ⊢
      go_simp
      exact hK.out _ _ hw (Below.refl _ _) (rfl)
    refine Inv.Steps.go (by decide) (by rfl) (fun σ wx hw hd K hK => ?_) ?_
    · obtain e24 : (σ 24) = .pointer (some ⟨bb, 0, none⟩) := hd 0 (some 24) (by kernel_rfl) (by rfl)
      simp only [List.getElem_toArray, List.getElem_cons_zero, List.getElem_cons_succ, Act.put, List.setIfInBounds_toArray, List.set_cons_zero, List.set_cons_succ, e24] at hK ⊢
      obtain ⟨k0, k1_⟩ := PB.out _ hw
      go_simp
      exact hK.out _ _ hw (Below.refl _ _) (rfl)
    refine Inv.Steps.go (by decide) (by rfl) (fun σ wx hw hd K hK => ?_) ?_
    · simp only [List.getElem_toArray, List.getElem_cons_zero, List.getElem_cons_succ, Act.put, List.setIfInBounds_toArray, List.set_cons_zero, List.set_cons_succ] at hK ⊢
      go_simp
      exact hK.out _ _ hw (Below.refl _ _) (rfl)
    refine Inv.Steps.go (by decide) (by rfl) (fun σ wx hw hd K hK => ?_) ?_
    · obtain e25 : (σ 25) = .slice ga gn gc := hd 1 (some 25) (by kernel_rfl) (by rfl)
      obtain e26 : (σ 26) = .slice (some ⟨bo, 0, none⟩) 1 1 := hd 2 (some 26) (by kernel_rfl) (by rfl)
      simp only [List.getElem_toArray, List.getElem_cons_zero, List.getElem_cons_succ, Act.put, List.setIfInBounds_toArray, List.set_cons_zero, List.set_cons_succ, e25, e26] at hK ⊢
      go_simp
      go_at_call 17
      refine (refunion_sv (RG.out _ hw).rv (RO.out _ hw).rv (by omega) (by omega)).mono ?_
      rintro e w1 ⟨⟨r, rfl, hS⟩, hb⟩
      dsimp only
      obtain ⟨ra, rn, rc, rfl, _⟩ := Sv.form hS
      exact hK.out _ _ (Buf.then_ hw hb) hb (⟨_, _, _, rfl, hS⟩)
    refine Inv.Steps.go (by decide) (by rfl) (fun σ wx hw hd K hK => ?_) ?_
    · simp only [List.getElem_toArray, List.getElem_cons_zero, List.getElem_cons_succ, Act.put, List.setIfInBounds_toArray, List.set_cons_zero, List.set_cons_succ] at hK ⊢
      go_simp
      exact hK.out _ _ hw (Below.refl _ _) (rfl)
    refine Inv.Steps.go (by decide) (by rfl) (fun σ wx hw hd K hK => ?_) ?_
    · obtain e28 : (σ 28) = .pointer (some ⟨bb, 1, none⟩) := hd 4 (some 28) (by kernel_rfl) (by rfl)
      simp only [List.getElem_toArray, List.getElem_cons_zero, List.getElem_cons_succ, Act.put, List.setIfInBounds_toArray, List.set_cons_zero, List.set_cons_succ, e28] at hK ⊢
      obtain ⟨k0, k1_⟩ := PB.out _ hw
      go_simp
      exact hK.out _ _ hw (Below.refl _ _) (rfl)
    refine Inv.Steps.go (by decide) (by rfl) (fun σ wx hw hd K hK => ?_) ?_
    · simp only [List.getElem_toArray, List.getElem_cons_zero, List.getElem_cons_succ, Act.put, List.setIfInBounds_toArray, List.set_cons_zero, List.set_cons_succ] at hK ⊢
      go_simp
      exact hK.out _ _ hw (Below.refl _ _) (rfl)
    refine Inv.Steps.go (by decide) (by rfl) (fun σ wx hw hd K hK => ?_) ?_
    · obtain e29 : (σ 29) = .slice la ln lc := hd 5 (some 29) (by kernel_rfl) (by rfl)
      obtain e30 : (σ 30) = .slice (some ⟨bo, 0, none⟩) 1 1 := hd 6 (some 30) (by kernel_rfl) (by rfl)
      simp only [List.getElem_toArray, List.getElem_cons_zero, List.getElem_cons_succ, Act.put, List.setIfInBounds_toArray, List.set_cons_zero, List.set_cons_succ, e29, e30] at hK ⊢
      go_simp
      go_at_call 21
      refine (refminus_sv (RL.out _ hw) (RO.out _ hw)).mono ?_
      rintro e w1 ⟨⟨r, rfl, hS⟩, hb⟩
      dsimp only
      obtain ⟨ra, rn, rc, rfl, _⟩ := Sv.form hS
      exact hK.out _ _ (Buf.then_ hw hb) hb (⟨_, _, _, rfl, hS⟩)
    refine Inv.Steps.go (by decide) (by rfl) (fun σ wx hw hd K hK => ?_) ?_
    · obtain ⟨ua, un, uc, e27, S27⟩ : ∃ a n c, (σ 27) = .slice a n c ∧ Sv wx (.slice a n c) (fun x => f x || decide (x = q)) (32 + 32) := hd 3 (some 27) (by kernel_rfl) (by rfl)
      obtain ⟨va, vn, vc, e31, S31⟩ : ∃ a n c, (σ 31) = .slice a n c ∧ Sv wx (.slice a n c) (fun x => g x && !decide (x = q)) 32 := hd 7 (some 31) (by kernel_rfl) (by rfl)
      simp only [List.getElem_toArray, List.getElem_cons_zero, List.getElem_cons_succ, Act.put, List.setIfInBounds_toArray, List.set_cons_zero, List.set_cons_succ, e27, e31] at hK ⊢
      go_simp
      exact hK.out _ _ hw (Below.refl _ _) (⟨_, _, _, _, _, _, rfl, S27, S31⟩)
    refine Inv.Steps.go (by decide) (by rfl) (fun σ wx hw hd K hK => ?_) ?_
    · obtain ⟨ua, un, uc, va, vn, vc, e32, S27, S31⟩ : ∃ a n c a' n' c', (σ 32) = .agg #[.slice a n c, .slice a' n' c'] ∧ Sv wx (.slice a n c) (fun x => f x || decide (x = q)) (32 + 32) ∧ Sv wx (.slice a' n' c') (fun x => g x && !decide (x = q)) 32 := hd 8 (some 32) (by kernel_rfl) (by rfl)
      simp only [List.getElem_toArray, List.getElem_cons_zero, List.getElem_cons_succ, Act.put, List.setIfInBounds_toArray, List.set_cons_zero, List.set_cons_succ, e32] at hK ⊢
      have n1 := Sv.len S27
      have n2 := Sv.len S31
      go_simp
      go_at_call 66
      refine (reflimited_any _ _ _ _ _ _ (by omega) (by omega) _).mono ?_
      rintro e w1 ⟨rfl, hb⟩
      dsimp only
      exact hK.out _ _ (Buf.then_ hw hb) hb (⟨_, _, _, _, _, _, rfl, S27.keep hb, S31.keep hb⟩)
    refine Inv.Steps.go (by decide) (by rfl) (fun σ wx hw hd K hK => ?_) ?_
    · obtain ⟨ua, un, uc, va, vn, vc, e33, S27, S31⟩ : ∃ a n c a' n' c', (σ 33) = .tuple #[.agg #[.slice a n c, .slice a' n' c'], .int .i64 0] ∧ Sv wx (.slice a n c) (fun x => f x || decide (x = q)) (32 + 32) ∧ Sv wx (.slice a' n' c') (fun x => g x && !decide (x = q)) 32 := hd 9 (some 33) (by kernel_rfl) (by rfl)
      simp only [List.getElem_toArray, List.getElem_cons_zero, List.getElem_cons_succ, Act.put, List.setIfInBounds_toArray, List.set_cons_zero, List.set_cons_succ, e33] at hK ⊢
      go_simp
      exact hK.out _ _ hw (Below.refl _ _) (⟨_, _, _, _, _, _, rfl, S27, S31⟩)
    refine Inv.Steps.go (by decide) (by rfl) (fun σ wx hw hd K hK => ?_) ?_
    · obtain ⟨ua, un, uc, va, vn, vc, e23, S27, S31⟩ : ∃ a n c a' n' c', (σ 23) = .tuple #[.agg #[.slice a n c, .slice a' n' c'], .int .i64 0] ∧ Sv wx (.slice a n c) (fun x => f x || decide (x = q)) (32 + 32) ∧ Sv wx (.slice a' n' c') (fun x => g x && !decide (x = q)) 32 := hd 10 (some 23) (by kernel_rfl) (by rfl)
      simp only [List.getElem_toArray, List.getElem_cons_zero, List.getElem_cons_succ, Act.put, List.setIfInBounds_toArray, List.set_cons_zero, List.set_cons_succ, e23] at hK ⊢
      go_simp
      exact hK.out _ _ hw (Below.refl _ _) (⟨_, _, _, _, _, _, rfl, S27, S31⟩)
    refine Inv.Steps.go (by decide) (by rfl) (fun σ wx hw hd K hK => ?_) ?_
    · obtain ⟨ua, un, uc, va, vn, vc, e23, S27, S31⟩ : ∃ a n c a' n' c', (σ 23) = .tuple #[.agg #[.slice a n c, .slice a' n' c'], .int .i64 0] ∧ Sv wx (.slice a n c) (fun x => f x || decide (x = q)) (32 + 32) ∧ Sv wx (.slice a' n' c') (fun x => g x && !decide (x = q)) 32 := hd 10 (some 23) (by kernel_rfl) (by rfl)
      simp only [List.getElem_toArray, List.getElem_cons_zero, List.getElem_cons_succ, Act.put, List.setIfInBounds_toArray, List.set_cons_zero, List.set_cons_succ, e23] at hK ⊢
      go_simp
      exact hK.out _ _ hw (Below.refl _ _) (rfl)
    refine Inv.Steps.go (by decide) (by rfl) (fun σ wx hw hd K hK => ?_) ?_
    · simp only [List.getElem_toArray, List.getElem_cons_zero, List.getElem_cons_succ, Act.put, List.setIfInBounds_toArray, List.set_cons_zero, List.set_cons_succ] at hK ⊢
      go_simp
      exact hK.out _ _ (Buf.then_ hw (new_block _)) (new_block _) (⟨_, rfl, heap_alloc_new _ _, hw.size⟩)
    exact Inv.Steps.nil
  · intro b1 b2 σ wx hw hd
    cases b1
    · obtain ⟨ua, un, uc, va, vn, vc, e34, S27, S31⟩ : ∃ a n c a' n' c', (σ 34) = .agg #[.slice a n c, .slice a' n' c'] ∧ Sv wx (.slice a n c) (fun x => f x || decide (x = q)) (32 + 32) ∧ Sv wx (.slice a' n' c') (fun x => g x && !decide (x = q)) 32 := hd 11 (some 34) (by kernel_rfl) (by decide) (fun h => absurd h (by decide)) (by rfl)
      obtain ⟨p, e8, P8, p0⟩ : ∃ p, (σ 8) = .pointer (some ⟨p, 0, none⟩) ∧ wx.heap[p]? = some (.cells #[.slice none 0 0, .slice none 0 0] 46 (0, 0)) ∧ wS.heap.size ≤ p := hd 13 (some 8) (by kernel_rfl) (by decide) (fun h => absurd h (by decide)) (by rfl)
      have H9 : ∃ a n c a' n' c', (σ 23) = .tuple #[.agg #[.slice a n c, .slice a' n' c'], .int .i64 0] ∧ Sv wx (.slice a n c) (fun x => f x || decide (x = q)) (32 + 32) ∧ Sv wx (.slice a' n' c') (fun x => g x && !decide (x = q)) 32 := hd 10 (some 23) (by kernel_rfl) (by decide) (fun h => absurd h (by decide)) (by rfl)
      obtain ⟨ua2, un2, uc2, va2, vn2, vc2, e23, _, _⟩ := H9
      simp only [e34, e8, e23]
      refine Inv.take (i := 12) (v := .int .i64 0) (by decide) rfl (by kernel_rfl) (by kernel_rfl) (by kernel_rfl) (fun _ _ _ h => h) (by rfl) (fun w' => ?_) ?_
      · simp only [List.getElem_toArray, List.getElem_cons_zero, List.getElem_cons_succ]
        go_simp
      try simp only [Act.put, List.setIfInBounds_toArray, List.set_cons_zero, List.set_cons_succ]
      obtain ⟨k0, k1_⟩ := Spn.c2 P8
      have f0 := frozen_of_row wx p 0 _ _ P8
      have f1 := frozen_of_row wx p 1 _ _ P8
      refine Inv.one (i := 14) (by decide) (by kernel_rfl) (by rfl) (fun K hK => ?_)
      simp only [List.getElem_toArray, List.getElem_cons_zero, List.getElem_cons_succ, Act.put, List.setIfInBounds_toArray, List.set_cons_zero, List.set_cons_succ] at hK ⊢
      go_simp
      refine hK.out _ _ ?_
      clear hK K
      refine Inv.take (i := 15) (v := .int .i64 0) (by decide) rfl (by kernel_rfl) (by kernel_rfl) (by kernel_rfl) (fun _ _ _ h => h) (by rfl) (fun w' => ?_) ?_
      · simp only [List.getElem_toArray, List.getElem_cons_zero, List.getElem_cons_succ]
        go_simp
      try simp only [Act.put, List.setIfInBounds_toArray, List.set_cons_zero, List.set_cons_succ]
      refine Inv.done (by kernel_rfl) (NoPanic.normal ?_)
      have Q8 := (heap_setCell_same wx p 0 _ _ (.slice ua un uc) P8).trans rfl
      have Z := Lib.hid ((heap_setCell_same (wx.setCell ⟨p, 0, none⟩ (.slice ua un uc)) p 1 _ _ (.slice va vn vc) Q8).trans rfl)
      have NT := Lib.hid (Sv.short (Rcv.Sv.set (Rcv.Sv.set S27 P8 (o := 0) (.slice ua un uc)) Q8 (o := 1) (.slice va vn vc)))
      have NU := Lib.hid (Sv.short (Rcv.Sv.set (Rcv.Sv.set S31 P8 (o := 0) (.slice ua un uc)) Q8 (o := 1) (.slice va vn vc)))
      have BZ := Lib.hid ((hw.setCell (p := ⟨p, 0, none⟩) p0 (.slice ua un uc)).setCell (p := ⟨p, 1, none⟩) p0 (.slice va vn vc))
      clear k0 k1_ f0 f1 P8 S27 S31 hd hw e34 e8 Q8
      generalize (wx.setCell ⟨p, 0, none⟩ (.slice ua un uc)).setCell ⟨p, 1, none⟩ (.slice va vn vc) = wT at *
      go_upto_region 9 with fail
      have hw0 : Below wT.heap.size wT wT.drew := (Below.refl _ _).drew
      refine wp_region_noPanic ?_
      refine wp_region_any (by kernel_rfl) ?_
      refine Inv.wpAny_inv2 (fun k => k == 6 || k == 7 || k == 8) 5 99 [40, 41, 42, 43, 44, 45] (fun w' => Below wT.heap.size wT w') (fun _ w1 w2 => Below w1.heap.size w1 w2) (fun k => ([fun v_ w_ => v_ = .agg #[.slice ua un uc, .slice va vn vc], fun v_ w_ => v_ = .pointer (some ⟨bb, 0, none⟩), fun v_ w_ => v_ = .slice ga gn gc, fun v_ w_ => v_ = .int .i64 q, fun v_ w_ => v_ = .bool (f q), fun v_ w_ => v_ = .bool (!(f q)), fun v_ w_ => True, fun v_ w_ => True, fun v_ w_ => True] : List (Value → World → Prop)).getD k (fun _ _ => True)) _ (fun σ => by simp only [Inv.putAll, List.foldl_cons, List.foldl_nil, Act.put, List.setIfInBounds_toArray, List.set_cons_zero, List.set_cons_succ]; rfl) (by kernel_rfl) (by kernel_rfl) (by decide) ?_ hw0 ?_ ?_ (fun b1 b2 => cond b1 3 4) (fun b1 b2 => #[true, true, true, true, true, b1, false, false, false]) (by intro b1 b2; cases b1 <;> cases b2 <;> kernel_rfl) (by intro b1 b2; cases b1 <;> cases b2 <;> kernel_rfl) (by exact ⟨rfl, rfl⟩) ?_
      · intro j k v w1 w2 hjk hv hr
        rcases k with _ | k
        · exact hv
        rcases k with _ | k
        · exact hv
        rcases k with _ | k
        · exact hv
        rcases k with _ | k
        · exact hv
        rcases k with _ | k
        · exact hv
        rcases k with _ | k
        · exact hv
        rcases k with _ | k
        · exact hv
        rcases k with _ | k
        · exact hv
        rcases k with _ | k
        · exact hv
        · exact hv
      · intro k t hl hd
        rcases k with _ | k
        · exact absurd hl (by decide +kernel)
        rcases k with _ | k
        · exact absurd hl (by decide +kernel)
        rcases k with _ | k
        · exact absurd hl (by decide +kernel)
        rcases k with _ | k
        · exact absurd hl (by decide +kernel)
        rcases k with _ | k
        · exact absurd hl (by decide +kernel)
        rcases k with _ | k
        · exact absurd hl (by decide +kernel)
        rcases k with _ | k
        · exact absurd hl (by decide +kernel)
        rcases k with _ | k
        · exact absurd hl (by decide +kernel)
        rcases k with _ | k
        · exact absurd hl (by decide +kernel)
        · simp at hd
      · show Inv.Steps _ _ _ _ _ _ _ _ [0, 1, 2, 3, 4, 5]
        refine Inv.Steps.go (by decide) (by rfl) (fun σ wx hw hd K hK => ?_) ?_
        · simp only [List.getElem_toArray, List.getElem_cons_zero, List.getElem_cons_succ, Act.put, List.setIfInBounds_toArray, List.set_cons_zero, List.set_cons_succ] at hK ⊢
          have Zx := hop hw Z.out
          obtain ⟨q0_, q1_⟩ := Spn.c2 Zx
          go_simp
          exact hK.out _ _ hw (Below.refl _ _) (rfl)
        refine Inv.Steps.go (by decide) (by rfl) (fun σ wx hw hd K hK => ?_) ?_
        · simp only [List.getElem_toArray, List.getElem_cons_zero, List.getElem_cons_succ, Act.put, List.setIfInBounds_toArray, List.set_cons_zero, List.set_cons_succ] at hK ⊢
          go_simp
          exact hK.out _ _ hw (Below.refl _ _) (rfl)
        refine Inv.Steps.go (by decide) (by rfl) (fun σ wx hw hd K hK => ?_) ?_
        · obtain e41 : (σ 41) = .pointer (some ⟨bb, 0, none⟩) := hd 1 (some 41) (by kernel_rfl) (by rfl)
          simp only [List.getElem_toArray, List.getElem_cons_zero, List.getElem_cons_succ, Act.put, List.setIfInBounds_toArray, List.set_cons_zero, List.set_cons_succ, e41] at hK ⊢
          obtain ⟨k0, k1_⟩ := PB.out _ (Buf.then_ BZ.out hw)
          go_simp
          exact hK.out _ _ hw (Below.refl _ _) (rfl)
        refine Inv.Steps.go (by decide) (by rfl) (fun σ wx hw hd K hK => ?_) ?_
        · simp only [List.getElem_toArray, List.getElem_cons_zero, List.getElem_cons_succ, Act.put, List.setIfInBounds_toArray, List.set_cons_zero, List.set_cons_succ] at hK ⊢
          go_simp
          exact hK.out _ _ hw (Below.refl _ _) (rfl)
        refine Inv.Steps.go (by decide) (by rfl) (fun σ wx hw hd K hK => ?_) ?_
        · obtain e42 : (σ 42) = .slice ga gn gc := hd 2 (some 42) (by kernel_rfl) (by rfl)
          obtain e43 : (σ 43) = .int .i64 q := hd 3 (some 43) (by kernel_rfl) (by rfl)
          simp only [List.getElem_toArray, List.getElem_cons_zero, List.getElem_cons_succ, Act.put, List.setIfInBounds_toArray, List.set_cons_zero, List.set_cons_succ, e42, e43] at hK ⊢
          go_simp
          go_at_call 28
          refine (refhas_sv q (RG.out _ (Buf.then_ BZ.out hw)).rv (by omega)).mono ?_
          rintro e w1 ⟨rfl, hb⟩
          dsimp only
          exact hK.out _ _ (Buf.then_ hw hb) hb (rfl)
        refine Inv.Steps.go (by decide) (by rfl) (fun σ wx hw hd K hK => ?_) ?_
        · obtain e44 : (σ 44) = .bool (f q) := hd 4 (some 44) (by kernel_rfl) (by rfl)
          simp only [List.getElem_toArray, List.getElem_cons_zero, List.getElem_cons_succ, Act.put, List.setIfInBounds_toArray, List.set_cons_zero, List.set_cons_succ, e44] at hK ⊢
          go_simp
          exact hK.out _ _ hw (Below.refl _ _) (rfl)
        exact Inv.Steps.nil
      · intro b1 b2 σ wx hw hd
        cases b1
        · obtain e40 : (σ 40) = .agg #[.slice ua un uc, .slice va vn vc] := hd 0 (some 40) (by kernel_rfl) (by decide) (fun h => absurd h (by decide)) (by rfl)
          obtain e44 : (σ 44) = .bool (f q) := hd 4 (some 44) (by kernel_rfl) (by decide) (fun h => absurd h (by decide)) (by rfl)
          simp only [e40, e44]
          refine Inv.take (i := 5) (v := .bool (!(f q))) (by decide) rfl (by kernel_rfl) (by kernel_rfl) (by kernel_rfl) (fun _ _ _ h => h) (by rfl) (fun w' => ?_) ?_
          · simp only [List.getElem_toArray, List.getElem_cons_zero, List.getElem_cons_succ]
            go_simp
          try simp only [Act.put, List.setIfInBounds_toArray, List.set_cons_zero, List.set_cons_succ]
          have P4 := hop (Buf.then_ BZ.out hw) PR.out
          obtain ⟨k0, k1_⟩ := Spn.c2 P4
          have f0 := frozen_of_row wx br 0 _ _ P4
          have f1 := frozen_of_row wx br 1 _ _ P4
          refine Inv.one (i := 6) (by decide) (by kernel_rfl) (by rfl) (fun K hK => ?_)
          simp only [List.getElem_toArray, List.getElem_cons_zero, List.getElem_cons_succ, Act.put, List.setIfInBounds_toArray, List.set_cons_zero, List.set_cons_succ] at hK ⊢
          go_simp
          refine hK.out _ _ ?_
          clear hK K
          refine Inv.take (i := 7) (v := .bool (!(f q))) (by decide) rfl (by kernel_rfl) (by kernel_rfl) (by kernel_rfl) (fun _ _ _ h => h) (by rfl) (fun w' => ?_) ?_
          · simp only [List.getElem_toArray, List.getElem_cons_zero, List.getElem_cons_succ]
            go_simp
          try simp only [Act.put, List.setIfInBounds_toArray, List.set_cons_zero, List.set_cons_succ]
          refine Inv.take (i := 8) (v := .int .i64 0) (by decide) rfl (by kernel_rfl) (by kernel_rfl) (by kernel_rfl) (fun _ _ _ h => h) (by rfl) (fun w' => ?_) ?_
          · simp only [List.getElem_toArray, List.getElem_cons_zero, List.getElem_cons_succ]
            go_simp
          try simp only [Act.put, List.setIfInBounds_toArray, List.set_cons_zero, List.set_cons_succ]
          refine Inv.done (by kernel_rfl) (NoPanic.normal ?_)
          have Q4 := (heap_setCell_same wx br 0 _ _ (.slice ua un uc) P4).trans rfl
          have Z4 := (heap_setCell_same (wx.setCell ⟨br, 0, none⟩ (.slice ua un uc)) br 1 _ _ (.slice va vn vc) Q4).trans rfl
          have RR := Lib.hid (show Rc _ _ _ _ _ from ⟨Rcv.Sv.set (Rcv.Sv.set (NT.out.keep hw) P4 (o := 0) (.slice ua un uc)) Q4 (o := 1) (.slice va vn vc), Rcv.Sv.set (Rcv.Sv.set (NU.out.keep hw) P4 (o := 0) (.slice ua un uc)) Q4 (o := 1) (.slice va vn vc), AP2.out⟩)
          have BQ := Lib.hid (((BS.out.trans ((Buf.then_ BZ.out hw).mono BS.out.size)).setCell (p := ⟨br, 0, none⟩) hbr (.slice ua un uc)).setCell (p := ⟨br, 1, none⟩) hbr (.slice va vn vc))
          clear k0 k1_ f0 f1 P4 Q4 hd hw e40
          generalize (wx.setCell ⟨br, 0, none⟩ (.slice ua un uc)).setCell ⟨br, 1, none⟩ (.slice va vn vc) = wU at *
          obtain ⟨k0, k1_⟩ := Spn.c2 Z4
          clear Z4
          go_wp2_with fail
          refine bodyPost_ret (v := .tuple #[.agg #[.slice ua un uc, .slice va vn vc], .bool (!(f q)), .int .i64 0]) (by simp [results, Try.results40, go_sem, k0, k1_]) rfl ⟨⟨_, _, rfl, RR.out⟩, BQ.out⟩
        · obtain e40 : (σ 40) = .agg #[.slice ua un uc, .slice va vn vc] := hd 0 (some 40) (by kernel_rfl) (by decide) (fun h => absurd h (by decide)) (by rfl)
          obtain e45 : (σ 45) = .bool (!(f q)) := hd 5 (some 45) (by kernel_rfl) (by decide) (fun h => absurd h (by decide)) (by rfl)
          simp only [e40, e45]
          have P4 := hop (Buf.then_ BZ.out hw) PR.out
          obtain ⟨k0, k1_⟩ := Spn.c2 P4
          have f0 := frozen_of_row wx br 0 _ _ P4
          have f1 := frozen_of_row wx br 1 _ _ P4
          refine Inv.one (i := 6) (by decide) (by kernel_rfl) (by rfl) (fun K hK => ?_)
          simp only [List.getElem_toArray, List.getElem_cons_zero, List.getElem_cons_succ, Act.put, List.setIfInBounds_toArray, List.set_cons_zero, List.set_cons_succ] at hK ⊢
          go_simp
          refine hK.out _ _ ?_
          clear hK K
          refine Inv.take (i := 7) (v := .bool (!(f q))) (by decide) rfl (by kernel_rfl) (by kernel_rfl) (by kernel_rfl) (fun _ _ _ h => h) (by rfl) (fun w' => ?_) ?_
          · simp only [List.getElem_toArray, List.getElem_cons_zero, List.getElem_cons_succ]
            go_simp
          try simp only [Act.put, List.setIfInBounds_toArray, List.set_cons_zero, List.set_cons_succ]
          refine Inv.take (i := 8) (v := .int .i64 0) (by decide) rfl (by kernel_rfl) (by kernel_rfl) (by kernel_rfl) (fun _ _ _ h => h) (by rfl) (fun w' => ?_) ?_
          · simp only [List.getElem_toArray, List.getElem_cons_zero, List.getElem_cons_succ]
            go_simp
          try simp only [Act.put, List.setIfInBounds_toArray, List.set_cons_zero, List.set_cons_succ]
          refine Inv.done (by kernel_rfl) (NoPanic.normal ?_)
          have Q4 := (heap_setCell_same wx br 0 _ _ (.slice ua un uc) P4).trans rfl
          have Z4 := (heap_setCell_same (wx.setCell ⟨br, 0, none⟩ (.slice ua un uc)) br 1 _ _ (.slice va vn vc) Q4).trans rfl
          have RR := Lib.hid (show Rc _ _ _ _ _ from ⟨Rcv.Sv.set (Rcv.Sv.set (NT.out.keep hw) P4 (o := 0) (.slice ua un uc)) Q4 (o := 1) (.slice va vn vc), Rcv.Sv.set (Rcv.Sv.set (NU.out.keep hw) P4 (o := 0) (.slice ua un uc)) Q4 (o := 1) (.slice va vn vc), AP2.out⟩)
          have BQ := Lib.hid (((BS.out.trans ((Buf.then_ BZ.out hw).mono BS.out.size)).setCell (p := ⟨br, 0, none⟩) hbr (.slice ua un uc)).setCell (p := ⟨br, 1, none⟩) hbr (.slice va vn vc))
          clear k0 k1_ f0 f1 P4 Q4 hd hw e40
          generalize (wx.setCell ⟨br, 0, none⟩ (.slice ua un uc)).setCell ⟨br, 1, none⟩ (.slice va vn vc) = wU at *
          obtain ⟨k0, k1_⟩ := Spn.c2 Z4
          clear Z4
          go_wp2_with fail
          refine bodyPost_ret (v := .tuple #[.agg #[.slice ua un uc, .slice va vn vc], .bool (!(f q)), .int .i64 0]) (by simp [results, Try.results40, go_sem, k0, k1_]) rfl ⟨⟨_, _, rfl, RR.out⟩, BQ.out⟩
    · obtain ⟨ua, un, uc, va, vn, vc, e34, S27, S31⟩ : ∃ a n c a' n' c', (σ 34) = .agg #[.slice a n c, .slice a' n' c'] ∧ Sv wx (.slice a n c) (fun x => f x || decide (x = q)) (32 + 32) ∧ Sv wx (.slice a' n' c') (fun x => g x && !decide (x = q)) 32 := hd 11 (some 34) (by kernel_rfl) (by decide) (fun h => absurd h (by decide)) (by rfl)
      obtain ⟨p, e8, P8, p0⟩ : ∃ p, (σ 8) = .pointer (some ⟨p, 0, none⟩) ∧ wx.heap[p]? = some (.cells #[.slice none 0 0, .slice none 0 0] 46 (0, 0)) ∧ wS.heap.size ≤ p := hd 13 (some 8) (by kernel_rfl) (by decide) (fun h => absurd h (by decide)) (by rfl)
      obtain e35 : (σ 35) = .int .i64 0 := hd 12 (some 35) (by kernel_rfl) (by decide) (fun h => absurd h (by decide)) (by rfl)
      simp only [e34, e8, e35]
      obtain ⟨k0, k1_⟩ := Spn.c2 P8
      have f0 := frozen_of_row wx p 0 _ _ P8
      have f1 := frozen_of_row wx p 1 _ _ P8
      refine Inv.one (i := 14) (by decide) (by kernel_rfl) (by rfl) (fun K hK => ?_)
      simp only [List.getElem_toArray, List.getElem_cons_zero, List.getElem_cons_succ, Act.put, List.setIfInBounds_toArray, List.set_cons_zero, List.set_cons_succ] at hK ⊢
      go_simp
      refine hK.out _ _ ?_
      clear hK K
      refine Inv.take (i := 15) (v := .int .i64 0) (by decide) rfl (by kernel_rfl) (by kernel_rfl) (by kernel_rfl) (fun _ _ _ h => h) (by rfl) (fun w' => ?_) ?_
      · simp only [List.getElem_toArray, List.getElem_cons_zero, List.getElem_cons_succ]
        go_simp
      try simp only [Act.put, List.setIfInBounds_toArray, List.set_cons_zero, List.set_cons_succ]
      refine Inv.done (by kernel_rfl) (NoPanic.normal ?_)
      have Q8 := (heap_setCell_same wx p 0 _ _ (.slice ua un uc) P8).trans rfl
      have Z := Lib.hid ((heap_setCell_same (wx.setCell ⟨p, 0, none⟩ (.slice ua un uc)) p 1 _ _ (.slice va vn vc) Q8).trans rfl)
      have NT := Lib.hid (Sv.short (Rcv.Sv.set (Rcv.Sv.set S27 P8 (o := 0) (.slice ua un uc)) Q8 (o := 1) (.slice va vn vc)))
      have NU := Lib.hid (Sv.short (Rcv.Sv.set (Rcv.Sv.set S31 P8 (o := 0) (.slice ua un uc)) Q8 (o := 1) (.slice va vn vc)))
      have BZ := Lib.hid ((hw.setCell (p := ⟨p, 0, none⟩) p0 (.slice ua un uc)).setCell (p := ⟨p, 1, none⟩) p0 (.slice va vn vc))
      clear k0 k1_ f0 f1 P8 S27 S31 hd hw e34 e8 Q8
      generalize (wx.setCell ⟨p, 0, none⟩ (.slice ua un uc)).setCell ⟨p, 1, none⟩ (.slice va vn vc) = wT at *
      go_upto_region 9 with fail
      have hw0 : Below wT.heap.size wT wT.drew := (Below.refl _ _).drew
      refine wp_region_noPanic ?_
      refine wp_region_any (by kernel_rfl) ?_
      refine Inv.wpAny_inv2 (fun k => k == 6 || k == 7 || k == 8) 5 99 [40, 41, 42, 43, 44, 45] (fun w' => Below wT.heap.size wT w') (fun _ w1 w2 => Below w1.heap.size w1 w2) (fun k => ([fun v_ w_ => v_ = .agg #[.slice ua un uc, .slice va vn vc], fun v_ w_ => v_ = .pointer (some ⟨bb, 0, none⟩), fun v_ w_ => v_ = .slice ga gn gc, fun v_ w_ => v_ = .int .i64 q, fun v_ w_ => v_ = .bool (f q), fun v_ w_ => v_ = .bool (!(f q)), fun v_ w_ => True, fun v_ w_ => True, fun v_ w_ => True] : List (Value → World → Prop)).getD k (fun _ _ => True)) _ (fun σ => by simp only [Inv.putAll, List.foldl_cons, List.foldl_nil, Act.put, List.setIfInBounds_toArray, List.set_cons_zero, List.set_cons_succ]; rfl) (by kernel_rfl) (by kernel_rfl) (by decide) ?_ hw0 ?_ ?_ (fun b1 b2 => cond b1 3 4) (fun b1 b2 => #[true, true, true, true, true, b1, false, false, false]) (by intro b1 b2; cases b1 <;> cases b2 <;> kernel_rfl) (by intro b1 b2; cases b1 <;> cases b2 <;> kernel_rfl) (by exact ⟨rfl, rfl⟩) ?_
      · intro j k v w1 w2 hjk hv hr
        rcases k with _ | k
        · exact hv
        rcases k with _ | k
        · exact hv
        rcases k with _ | k
        · exact hv
        rcases k with _ | k
        · exact hv
        rcases k with _ | k
        · exact hv
        rcases k with _ | k
        · exact hv
        rcases k with _ | k
        · exact hv
        rcases k with _ | k
        · exact hv
        rcases k with _ | k
        · exact hv
        · exact hv
      · intro k t hl hd
        rcases k with _ | k
        · exact absurd hl (by decide +kernel)
        rcases k with _ | k
        · exact absurd hl (by decide +kernel)
        rcases k with _ | k
        · exact absurd hl (by decide +kernel)
        rcases k with _ | k
        · exact absurd hl (by decide +kernel)
        rcases k with _ | k
        · exact absurd hl (by decide +kernel)
        rcases k with _ | k
        · exact absurd hl (by decide +kernel)
        rcases k with _ | k
        · exact absurd hl (by decide +kernel)
        rcases k with _ | k
        · exact absurd hl (by decide +kernel)
        rcases k with _ | k
        · exact absurd hl (by decide +kernel)
        · simp at hd
      · show Inv.Steps _ _ _ _ _ _ _ _ [0, 1, 2, 3, 4, 5]
        refine Inv.Steps.go (by decide) (by rfl) (fun σ wx hw hd K hK => ?_) ?_
        · simp only [List.getElem_toArray, List.getElem_cons_zero, List.getElem_cons_succ, Act.put, List.setIfInBounds_toArray, List.set_cons_zero, List.set_cons_succ] at hK ⊢
          have Zx := hop hw Z.out
          obtain ⟨q0_, q1_⟩ := Spn.c2 Zx
          go_simp
          exact hK.out _ _ hw (Below.refl _ _) (rfl)
        refine Inv.Steps.go (by decide) (by rfl) (fun σ wx hw hd K hK => ?_) ?_
        · simp only [List.getElem_toArray, List.getElem_cons_zero, List.getElem_cons_succ, Act.put, List.setIfInBounds_toArray, List.set_cons_zero, List.set_cons_succ] at hK ⊢
          go_simp
          exact hK.out _ _ hw (Below.refl _ _) (rfl)
        refine Inv.Steps.go (by decide) (by rfl) (fun σ wx hw hd K hK => ?_) ?_
        · obtain e41 : (σ 41) = .pointer (some ⟨bb, 0, none⟩) := hd 1 (some 41) (by kernel_rfl) (by rfl)
          simp only [List.getElem_toArray, List.getElem_cons_zero, List.getElem_cons_succ, Act.put, List.setIfInBounds_toArray, List.set_cons_zero, List.set_cons_succ, e41] at hK ⊢
          obtain ⟨k0, k1_⟩ := PB.out _ (Buf.then_ BZ.out hw)
          go_simp
          exact hK.out _ _ hw (Below.refl _ _) (rfl)
        refine Inv.Steps.go (by decide) (by rfl) (fun σ wx hw hd K hK => ?_) ?_
        · simp only [List.getElem_toArray, List.getElem_cons_zero, List.getElem_cons_succ, Act.put, List.setIfInBounds_toArray, List.set_cons_zero, List.set_cons_succ] at hK ⊢
          go_simp
          exact hK.out _ _ hw (Below.refl _ _) (rfl)
        refine Inv.Steps.go (by decide) (by rfl) (fun σ wx hw hd K hK => ?_) ?_
        · obtain e42 : (σ 42) = .slice ga gn gc := hd 2 (some 42) (by kernel_rfl) (by rfl)
          obtain e43 : (σ 43) = .int .i64 q := hd 3 (some 43) (by kernel_rfl) (by rfl)
          simp only [List.getElem_toArray, List.getElem_cons_zero, List.getElem_cons_succ, Act.put, List.setIfInBounds_toArray, List.set_cons_zero, List.set_cons_succ, e42, e43] at hK ⊢
          go_simp
          go_at_call 28
          refine (refhas_sv q (RG.out _ (Buf.then_ BZ.out hw)).rv (by omega)).mono ?_
          rintro e w1 ⟨rfl, hb⟩
          dsimp only
          exact hK.out _ _ (Buf.then_ hw hb) hb (rfl)
        refine Inv.Steps.go (by decide) (by rfl) (fun σ wx hw hd K hK => ?_) ?_
        · obtain e44 : (σ 44) = .bool (f q) := hd 4 (some 44) (by kernel_rfl) (by rfl)
          simp only [List.getElem_toArray, List.getElem_cons_zero, List.getElem_cons_succ, Act.put, List.setIfInBounds_toArray, List.set_cons_zero, List.set_cons_succ, e44] at hK ⊢
          go_simp
          exact hK.out _ _ hw (Below.refl _ _) (rfl)
        exact Inv.Steps.nil
      · intro b1 b2 σ wx hw hd
        cases b1
        · obtain e40 : (σ 40) = .agg #[.slice ua un uc, .slice va vn vc] := hd 0 (some 40) (by kernel_rfl) (by decide) (fun h => absurd h (by decide)) (by rfl)
          obtain e44 : (σ 44) = .bool (f q) := hd 4 (some 44) (by kernel_rfl) (by decide) (fun h => absurd h (by decide)) (by rfl)
          simp only [e40, e44]
          refine Inv.take (i := 5) (v := .bool (!(f q))) (by decide) rfl (by kernel_rfl) (by kernel_rfl) (by kernel_rfl) (fun _ _ _ h => h) (by rfl) (fun w' => ?_) ?_
          · simp only [List.getElem_toArray, List.getElem_cons_zero, List.getElem_cons_succ]
            go_simp
          try simp only [Act.put, List.setIfInBounds_toArray, List.set_cons_zero, List.set_cons_succ]
          have P4 := hop (Buf.then_ BZ.out hw) PR.out
          obtain ⟨k0, k1_⟩ := Spn.c2 P4
          have f0 := frozen_of_row wx br 0 _ _ P4
          have f1 := frozen_of_row wx br 1 _ _ P4
          refine Inv.one (i := 6) (by decide) (by kernel_rfl) (by rfl) (fun K hK => ?_)
          simp only [List.getElem_toArray, List.getElem_cons_zero, List.getElem_cons_succ, Act.put, List.setIfInBounds_toArray, List.set_cons_zero, List.set_cons_succ] at hK ⊢
          go_simp
          refine hK.out _ _ ?_
          clear hK K
          refine Inv.take (i := 7) (v := .bool (!(f q))) (by decide) rfl (by kernel_rfl) (by kernel_rfl) (by kernel_rfl) (fun _ _ _ h => h) (by rfl) (fun w' => ?_) ?_
          · simp only [List.getElem_toArray, List.getElem_cons_zero, List.getElem_cons_succ]
            go_simp
          try simp only [Act.put, List.setIfInBounds_toArray, List.set_cons_zero, List.set_cons_succ]
          refine Inv.take (i := 8) (v := .int .i64 0) (by decide) rfl (by kernel_rfl) (by kernel_rfl) (by kernel_rfl) (fun _ _ _ h => h) (by rfl) (fun w' => ?_) ?_
          · simp only [List.getElem_toArray, List.getElem_cons_zero, List.getElem_cons_succ]
            go_simp
          try simp only [Act.put, List.setIfInBounds_toArray, List.set_cons_zero, List.set_cons_succ]
          refine Inv.done (by kernel_rfl) (NoPanic.normal ?_)
          have Q4 := (heap_setCell_same wx br 0 _ _ (.slice ua un uc) P4).trans rfl
          have Z4 := (heap_setCell_same (wx.setCell ⟨br, 0, none⟩ (.slice ua un uc)) br 1 _ _ (.slice va vn vc) Q4).trans rfl
          have RR := Lib.hid (show Rc _ _ _ _ _ from ⟨Rcv.Sv.set (Rcv.Sv.set (NT.out.keep hw) P4 (o := 0) (.slice ua un uc)) Q4 (o := 1) (.slice va vn vc), Rcv.Sv.set (Rcv.Sv.set (NU.out.keep hw) P4 (o := 0) (.slice ua un uc)) Q4 (o := 1) (.slice va vn vc), AP2.out⟩)
          have BQ := Lib.hid (((BS.out.trans ((Buf.then_ BZ.out hw).mono BS.out.size)).setCell (p := ⟨br, 0, none⟩) hbr (.slice ua un uc)).setCell (p := ⟨br, 1, none⟩) hbr (.slice va vn vc))
          clear k0 k1_ f0 f1 P4 Q4 hd hw e40
          generalize (wx.setCell ⟨br, 0, none⟩ (.slice ua un uc)).setCell ⟨br, 1, none⟩ (.slice va vn vc) = wU at *
          obtain ⟨k0, k1_⟩ := Spn.c2 Z4
          clear Z4
          go_wp2_with fail
          refine bodyPost_ret (v := .tuple #[.agg #[.slice ua un uc, .slice va vn vc], .bool (!(f q)), .int .i64 0]) (by simp [results, Try.results40, go_sem, k0, k1_]) rfl ⟨⟨_, _, rfl, RR.out⟩, BQ.out⟩
        · obtain e40 : (σ 40) = .agg #[.slice ua un uc, .slice va vn vc] := hd 0 (some 40) (by kernel_rfl) (by decide) (fun h => absurd h (by decide)) (by rfl)
          obtain e45 : (σ 45) = .bool (!(f q)) := hd 5 (some 45) (by kernel_rfl) (by decide) (fun h => absurd h (by decide)) (by rfl)
          simp only [e40, e45]
          have P4 := hop (Buf.then_ BZ.out hw) PR.out
          obtain ⟨k0, k1_⟩ := Spn.c2 P4
          have f0 := frozen_of_row wx br 0 _ _ P4
          have f1 := frozen_of_row wx br 1 _ _ P4
          refine Inv.one (i := 6) (by decide) (by kernel_rfl) (by rfl) (fun K hK => ?_)
          simp only [List.getElem_toArray, List.getElem_cons_zero, List.getElem_cons_succ, Act.put, List.setIfInBounds_toArray, List.set_cons_zero, List.set_cons_succ] at hK ⊢
          go_simp
          refine hK.out _ _ ?_
          clear hK K
          refine Inv.take (i := 7) (v := .bool (!(f q))) (by decide) rfl (by kernel_rfl) (by kernel_rfl) (by kernel_rfl) (fun _ _ _ h => h) (by rfl) (fun w' => ?_) ?_
          · simp only [List.getElem_toArray, List.getElem_cons_zero, List.getElem_cons_succ]
            go_simp
          try simp only [Act.put, List.setIfInBounds_toArray, List.set_cons_zero, List.set_cons_succ]
          refine Inv.take (i := 8) (v := .int .i64 0) (by decide) rfl (by kernel_rfl) (by kernel_rfl) (by kernel_rfl) (fun _ _ _ h => h) (by rfl) (fun w' => ?_) ?_
          · simp only [List.getElem_toArray, List.getElem_cons_zero, List.getElem_cons_succ]
            go_simp
          try simp only [Act.put, List.setIfInBounds_toArray, List.set_cons_zero, List.set_cons_succ]
          refine Inv.done (by kernel_rfl) (NoPanic.normal ?_)
          have Q4 := (heap_setCell_same wx br 0 _ _ (.slice ua un uc) P4).trans rfl
          have Z4 := (heap_setCell_same (wx.setCell ⟨br, 0, none⟩ (.slice ua un uc)) br 1 _ _ (.slice va vn vc) Q4).trans rfl
          have RR := Lib.hid (show Rc _ _ _ _ _ from ⟨Rcv.Sv.set (Rcv.Sv.set (NT.out.keep hw) P4 (o := 0) (.slice ua un uc)) Q4 (o := 1) (.slice va vn vc), Rcv.Sv.set (Rcv.Sv.set (NU.out.keep hw) P4 (o := 0) (.slice ua un uc)) Q4 (o := 1) (.slice va vn vc), AP2.out⟩)
          have BQ := Lib.hid (((BS.out.trans ((Buf.then_ BZ.out hw).mono BS.out.size)).setCell (p := ⟨br, 0, none⟩) hbr (.slice ua un uc)).setCell (p := ⟨br, 1, none⟩) hbr (.slice va vn vc))
          clear k0 k1_ f0 f1 P4 Q4 hd hw e40
          generalize (wx.setCell ⟨br, 0, none⟩ (.slice ua un uc)).setCell ⟨br, 1, none⟩ (.slice va vn vc) = wU at *
          obtain ⟨k0, k1_⟩ := Spn.c2 Z4
          clear Z4
          go_wp2_with fail
          refine bodyPost_ret (v := .tuple #[.agg #[.slice ua un uc, .slice va vn vc], .bool (!(f q)), .int .i64 0]) (by simp [results, Try.results40, go_sem, k0, k1_]) rfl ⟨⟨_, _, rfl, RR.out⟩, BQ.out⟩
end Rcv
end Go.Proofs.Ytfmhfhggogjbkaa

/- The reference's Minus, Meet and Cut at canonical sets. -/
set_option linter.unusedVariables false
set_option linter.unusedSimpArgs false
namespace Go.Proofs.Ytfmhfhggogjbkaa
open Go.RowKit Dice
namespace Spn
open Sp (cells2 cells2_snoc cells2_get Spans own_kept own_below own_mono own_shape)
set_option maxHeartbeats 4000000 in
set_option maxRecDepth 100000 in
theorem refminus_any {w : World} {va vb : Value} {A0 B0 : LP} (ha : Its w va A0) (hb : Its w vb B0) (iA : Inside A0 0 64) (iB : Inside B0 0 64) (h9a : A0.length ≤ 100) (h9b : B0.length ≤ 100) :
    Calls Try.prog 21 #[va, vb] w fun e w' => (∃ r N, e = .returned r ∧ Spans w' w.heap.size r N ∧ Is N (fun x => hasB A0 x && !hasB B0 x) ∧ N.length ≤ 32) ∧ Below w.heap.size w w' := by
  obtain ⟨i0, hi, hz0, hz1, hz2⟩ := info_get infoS
  have NA := Lib.hid (refnormal_any ha (by omega))
  have NB0 := Lib.hid fun (w' : World) (h' : Below w.heap.size w w') => refnormal_any (hb.keep h') (by omega)
  have JA := Lib.hid iA
  have JB := Lib.hid iB
  clear ha hb iA iB
  go_enter Try.func21, Try.ntmps21
  go_wp2_with fail
  refine NA.out.mono ?_
  rintro e w1 ⟨⟨r, A, rfl, OA, IsA, lA⟩, hb1⟩
  obtain ⟨n, hn⟩ : ∃ n, n = A.length := ⟨_, rfl⟩
  have h9n : n ≤ 100 := by omega
  replace hn := Lib.hid hn
  have CA := Lib.hid IsA.canon
  have IA := Lib.hid (IsA.inside JA.out)
  have HA0 := Lib.hid IsA.has
  clear lA IsA JA
  obtain ⟨xa, xc, rfl⟩ := own_len OA
  rw [← hn.out] at OA ⊢
  have NB := Lib.hid (NB0.out _ hb1)
  have FA0 := Lib.hid (fun (j : Nat) (p : Int × Int) (hj : A[j]? = some p) => own_get (L := A) (n := n) OA hj)
  have B1 := Lib.hid hb1
  clear OA hb1 NA NB0
  go_wp2_with fail
  refine NB.out.mono ?_
  rintro e w2 ⟨⟨r, B, rfl, OB, IsB, lB⟩, hb2⟩
  obtain ⟨m, hm⟩ : ∃ m, m = B.length := ⟨_, rfl⟩
  have h9m : m ≤ 100 := by omega
  replace hm := Lib.hid hm
  have CB := Lib.hid IsB.canon
  have IB := Lib.hid (IsB.inside JB.out)
  have HB0 := Lib.hid IsB.has
  clear lB IsB JB
  obtain ⟨ya, yc, rfl⟩ := own_len OB
  rw [← hm.out] at OB ⊢
  have FB := Lib.hid (fun (j : Nat) (p : Int × Int) (hj : B[j]? = some p) => own_get (L := B) (n := m) OB hj)
  have FA := Lib.hid (fun (j : Nat) (p : Int × Int) (hj : A[j]? = some p) => show n ≤ xc ∧ ∃ g, xa = some ⟨g, 0, none⟩ ∧ g < w2.heap.size ∧ w2.cell? ⟨g, j * 2, none⟩ = some (.int .i64 p.1) ∧ w2.cell? ⟨g, j * 2 + 1, none⟩ = some (.int .i64 p.2) from by
    obtain ⟨_, h2, g, e, hg, _, c0, c1, _⟩ := FA0.out j p hj
    exact ⟨h2, g, e, Nat.lt_of_lt_of_le hg hb2.size, (hb2.cell (p := ⟨g, _, none⟩) hg).trans c0, (hb2.cell (p := ⟨g, _, none⟩) hg).trans c1⟩)
  have B2 := Lib.hid (Buf.then_ B1.out hb2)
  have B0 := Lib.hid (Below.refl w2.heap.size w2)
  clear OB hb2 NB FA0 B1
  have Z0 : Hid (Spans w2 w2.heap.size (.slice none 0 0) []) := Lib.hid (World.ownsRow_nil _ _ _ _)
  have R0 := Lib.hid (Ri.start A B)
  go_wp2_with fail
  go_loopw [7, 8] (fun s i wr => ∃ (kx : Nat) (N : LP), kx ≤ n ∧ i = .int .i64 kx ∧ Hid (Spans wr w2.heap.size s N) ∧ Hid (Ri A B kx N) ∧ Hid (Below w2.heap.size w2 wr)) (fun _ i _ => n - (intOf i).toNat)
  case atStart => exact ⟨0, [], Nat.zero_le _, rfl, Z0, R0, B0⟩
  case round =>
    clear B0 Z0 R0
    obtain ⟨kx, N, hk, rfl, O, RI, HB⟩ := hrel
    obtain ⟨sa, sc, rfl⟩ := own_len O.out
    by_cases hlt : kx < n
    · obtain ⟨wo, hwo⟩ : ∃ wo, wo = wr := ⟨_, rfl⟩
      subst hwo
      obtain ⟨⟨lo, t⟩, hp⟩ : ∃ p, A[kx]? = some p := ⟨A[kx]'(by rw [← hn.out]; exact hlt), List.getElem?_eq_getElem _⟩
      obtain ⟨hz2_, g, hxa, hg, q0, q1⟩ := FA.out _ _ hp
      have hin := IA.out _ (List.mem_of_getElem? hp)
      have lt := CA.out.at hp
      dsimp only at hin lt q0 q1
      have k0 := (HB.out.cell (p := ⟨g, _, none⟩) hg).trans q0
      have k1 := Lib.hid ((HB.out.cell (p := ⟨g, _, none⟩) hg).trans q1)
      subst hxa
      have kn : (kx : Int) < (n : Int) := by omega
      have RK := Lib.hid (Rk.start RI.out hp lt)
      have HP := Lib.hid hp
      obtain ⟨i1, i2⟩ := hin
      have hr9 := Rk.short RK.out CA.out IA.out hp
      clear q0 q1 hp
      go_wp2_with fail
      go_loopw [7, 9, 10] (fun s u v wr => ∃ (kz : Nat) (fx : Int) (N : LP), kz ≤ m ∧ u = .int .i64 fx ∧ v = .int .i64 kz ∧ Hid (Spans wr w2.heap.size s N) ∧ Hid (Rk A B kx kz lo t fx N) ∧ 0 ≤ fx ∧ fx ≤ 64 ∧ Hid (Below w2.heap.size w2 wr)) (fun _ _ v _ => m - (intOf v).toNat)
      case atStart => exact ⟨0, lo, N, Nat.zero_le _, rfl, rfl, O, RK, by omega, by omega, HB⟩
      case round =>
        have HBo := HB
        clear O RI RK hr9 HB k0 k1
        obtain ⟨kz, fx, N, hkz, rfl, rfl, O, RK, f0, f9, HB⟩ := hrel
        have hr9 := Rk.short RK.out CA.out IA.out HP.out
        obtain ⟨sa, sc, rfl⟩ := own_len O.out
        obtain ⟨nl, hnl'⟩ : ∃ nl, N.length = nl := ⟨_, rfl⟩
        rw [hnl'] at O hr9
        try rw [hnl']
        have hnl := Lib.hid hnl'
        clear hnl'
        have cA1 := (HB.out.cell (p := ⟨g, _, none⟩) hg).trans (show w2.cell? ⟨g, kx * 2 + 1, none⟩ = some (.int .i64 t) from by
          obtain ⟨_, g', e, _, _, c1⟩ := FA.out _ _ HP.out
          cases e; exact c1)
        by_cases hlz : kz < m
        · obtain ⟨⟨u, v⟩, hq⟩ : ∃ p, B[kz]? = some p := ⟨B[kz]'(by rw [← hm.out]; exact hlz), List.getElem?_eq_getElem _⟩
          obtain ⟨hz1_, hz3_, gb, hya, hgb, _, q0, q1, _⟩ := FB.out _ _ hq
          have hinb := IB.out _ (List.mem_of_getElem? hq)
          have uv := CB.out.at hq
          dsimp only at hinb uv
          have j0 := (HB.out.cell (p := ⟨gb, _, none⟩) hgb).trans q0
          have j1 := (HB.out.cell (p := ⟨gb, _, none⟩) hgb).trans q1
          dsimp only at j0 j1
          subst hya
          have km : (kz : Int) < (m : Int) := by omega
          obtain ⟨u1, u2⟩ := hinb
          have HQ := Lib.hid hq
          have HQQ := Lib.hid hq
          clear q0 q1 hq hz1_
          by_cases c1 : v ≤ fx
          · have d1 : decide (v ≤ fx) = true := decide_eq_true c1
            have RN := Lib.hid (Rk.skip RK.out HQ.out (.inl c1))
            clear RK HQ
            go_wp2_with fail
            go_quiet (fail)
            go_wp2_with fail
            go_roundw
            case rel => exact ⟨kz + 1, fx, N, by omega, rfl, by go_num, Lib.hid (by repeat (first | exact O.out | refine own_below ?_ (Buf.below_drewN (Below.refl _ _) _))), RN, f0, f9, Lib.hid (by repeat (first | exact HB.out | refine Buf.below_drewN ?_ _))⟩
            case measure => simp [intOf]; omega
          · have d1 : decide (v ≤ fx) = false := decide_eq_false c1
            by_cases c2 : t ≤ u
            · have d2 : decide (t ≤ u) = true := decide_eq_true c2
              have RN := Lib.hid (Rk.skip RK.out HQ.out (.inr c2))
              clear RK HQ
              go_wp2_with fail
              go_quiet (fail)
              go_wp2_with fail
              go_roundw
              case rel => exact ⟨kz + 1, fx, N, by omega, rfl, by go_num, Lib.hid (by repeat (first | exact O.out | refine own_below ?_ (Buf.below_drewN (Below.refl _ _) _))), RN, f0, f9, Lib.hid (by repeat (first | exact HB.out | refine Buf.below_drewN ?_ _))⟩
              case measure => simp [intOf]; omega
            · have d2 : decide (t ≤ u) = false := decide_eq_false c2
              have RN := Rk.hit RK.out CB.out HQ.out (by simp only; omega) (by simp only; omega)
              by_cases c3 : fx < u
              · rw [if_pos c3] at RN
                replace RN := Lib.hid RN
                clear RK HQ
                go_wp2_with fail
                go_quiet (fail)
                go_upto_region 12 with fail
                obtain ⟨wp, hwp⟩ : ∃ wp, wp = wr.drewN nq := ⟨_, rfl⟩
                have bp := Lib.hid (show Below wr.heap.size wr wp by rw [hwp]; repeat (first | exact Below.refl _ _ | refine Buf.below_drewN ?_ _))
                have j0' : wp.cell? ⟨gb, kz * 2, none⟩ = some (.int .i64 u) := by rw [hwp]; exact j0
                have j1' : wp.cell? ⟨gb, kz * 2 + 1, none⟩ = some (.int .i64 v) := by rw [hwp]; exact j1
                rw [← hwp]
                clear hwp
                have hb3 := Lib.hid (heap_alloc_new wp (.cells #[.int .i64 fx, .int .i64 u] 49))
                have O3 := Lib.hid (own_below (own_below O.out bp.out) (new_block (w := wp) (.cells #[.int .i64 fx, .int .i64 u] 49)))
                unfold Spans at O3
                rw [hnl.out] at O3
                have one : Hid (∀ uu ∈ [Value.int .i64 fx, .int .i64 u], uu.oneCell' = true) := Lib.hid (by intro uu hu; simp at hu; rcases hu with rfl | rfl <;> rfl)
                have hB3 := Lib.hid (show w2.heap.size ≤ (wp.alloc (.cells #[.int .i64 fx, .int .i64 u] 49)).heap.size by have := HB.out.size; have := bp.out.size; simp; omega)
                go_upto_region 13 with (at_builtin; refine wpList_append_lies _ rfl (.tmp 59) (.tmp 67) 23 rfl w2.heap.size 49 i0 (.agg #[.int .i64 0, .int .i64 0]) 2 16 Try.underlying23 hi hz0 hz1 hz2 rfl (by decide) _ nl (cells2 N) rfl O3.out ⟨wp.heap.size, 0, none⟩ 1 1 [.int .i64 fx, .int .i64 u] rfl rfl (World.news_of_block hb3.out) one.out (by decide) (by unfold maxLen; omega) (by omega) hB3.out _ rfl ?_; intro gq cq w5 O2 G2 hg2 hl2)
                have O5 := Lib.hid (show Spans w5 w2.heap.size (.slice (some ⟨gq, 0, none⟩) (nl + 1) cq) (N ++ [(fx, u)]) by
                  unfold Spans
                  rw [cells2_snoc, List.length_append, hnl.out]
                  exact O2)
                have B5 := Lib.hid (show Below w2.heap.size w2 w5 from (Buf.then_ (Buf.then_ HB.out bp.out) (new_block (w := wp) (.cells #[.int .i64 fx, .int .i64 u] 49))).grown G2 (by have := HB.out.size; have := bp.out.size; simp; omega) (fun b hb => (O3.out.lt b hb).1))
                clear O2 G2 hg2 hl2 O3 hb3 hB3 one bp
                have HBp := Lib.hid (show gb < wp.heap.size from World.block_lt_of_cell? _ _ j1')
                have j5 := Lib.hid (show w5.cell? ⟨gb, kz * 2 + 1, none⟩ = some (.int .i64 v) from by
                  obtain ⟨_, _, gb', e, hgb', _, _, q1, _⟩ := FB.out _ _ HQQ.out
                  cases e
                  exact (B5.out.cell (p := ⟨gb, _, none⟩) hgb').trans q1)
                have j6 := j5.out
                clear j0 j1 j0' j1' cA1
                go_wp2_with fail
                go_roundw
                case rel => exact ⟨kz + 1, max fx v, N ++ [(fx, u)], by omega, rfl, by go_num, O5, RN, by omega, by omega, B5⟩
                case measure => simp [intOf]; omega
              · rw [if_neg c3] at RN
                replace RN := Lib.hid RN
                clear RK HQ
                go_wp2_with fail
                go_quiet (fail)
                go_wp2_with fail
                go_roundw
                case rel => exact ⟨kz + 1, max fx v, N, by omega, rfl, by go_num, Lib.hid (by repeat (first | exact O.out | refine own_below ?_ (Buf.below_drewN (Below.refl _ _) _))), RN, by omega, by omega, Lib.hid (by repeat (first | exact HB.out | refine Buf.below_drewN ?_ _))⟩
                case measure => simp [intOf]; omega
        · have RN := Rk.stop RK.out CA.out HP.out (by rw [← hm.out]; omega)
          have nq : Nat := 0
          by_cases c1 : fx < t
          · rw [if_pos c1] at RN
            replace RN := Lib.hid RN
            clear RK
            go_upto_region 15 with fail
            obtain ⟨wp, hwp⟩ : ∃ wp, wp = wr := ⟨_, rfl⟩
            have bp := Lib.hid (show Below wr.heap.size wr wp by rw [hwp]; repeat (first | exact Below.refl _ _ | refine Buf.below_drewN ?_ _))
            have c1' : wp.cell? ⟨g, kx * 2 + 1, none⟩ = some (.int .i64 t) := by rw [hwp]; exact cA1
            rw [← hwp]
            clear hwp
            have hb3 := Lib.hid (heap_alloc_new wp (.cells #[.int .i64 fx, .int .i64 t] 49))
            have O3 := Lib.hid (own_below (own_below O.out bp.out) (new_block (w := wp) (.cells #[.int .i64 fx, .int .i64 t] 49)))
            unfold Spans at O3
            rw [hnl.out] at O3
            have one : Hid (∀ uu ∈ [Value.int .i64 fx, .int .i64 t], uu.oneCell' = true) := Lib.hid (by intro uu hu; simp at hu; rcases hu with rfl | rfl <;> rfl)
            have hB3 := Lib.hid (show w2.heap.size ≤ (wp.alloc (.cells #[.int .i64 fx, .int .i64 t] 49)).heap.size by have := HB.out.size; have := bp.out.size; simp; omega)
            go_wp2_with (at_builtin; refine wpList_append_lies _ rfl (.tmp 83) (.tmp 91) 23 rfl w2.heap.size 49 i0 (.agg #[.int .i64 0, .int .i64 0]) 2 16 Try.underlying23 hi hz0 hz1 hz2 rfl (by decide) _ nl (cells2 N) rfl O3.out ⟨wp.heap.size, 0, none⟩ 1 1 [.int .i64 fx, .int .i64 t] rfl rfl (World.news_of_block hb3.out) one.out (by decide) (by unfold maxLen; omega) (by omega) hB3.out _ rfl ?_; intro gq cq w5 O2 G2 hg2 hl2)
            have O5 := Lib.hid (show Spans w5 w2.heap.size (.slice (some ⟨gq, 0, none⟩) (nl + 1) cq) (N ++ [(fx, t)]) by
              unfold Spans
              rw [cells2_snoc, List.length_append, hnl.out]
              exact O2)
            have B5 := Lib.hid (show Below w2.heap.size w2 w5 from (Buf.then_ (Buf.then_ HB.out bp.out) (new_block (w := wp) (.cells #[.int .i64 fx, .int .i64 t] 49))).grown G2 (by have := HB.out.size; have := bp.out.size; simp; omega) (fun b hb => (O3.out.lt b hb).1))
            clear O2 G2 hg2 hl2 O3 hb3 hB3 one bp
            go_roundw
            case rel => exact ⟨kx + 1, N ++ [(fx, t)], by omega, by go_num, O5, RN, B5⟩
            case measure => simp [intOf]; omega
          · rw [if_neg c1] at RN
            replace RN := Lib.hid RN
            clear RK
            go_wp2_with fail
            go_roundw
            case rel => exact ⟨kx + 1, N, by omega, by go_num, O, RN, HB⟩
            case measure => simp [intOf]; omega
    · obtain rfl : kx = n := by omega
      have RX := RI.out.is
      rw [take_all A kx (by rw [← hn.out]; exact Nat.le_refl _)] at RX
      have sh := RI.out.short IA.out
      go_wp2_with fail
      go_ret
      exact ⟨⟨_, N, rfl, own_mono O.out B2.out.size, RX.congr (fun x => by rw [HA0.out, HB0.out]), sh⟩, Buf.then_ B2.out HB.out⟩
set_option maxHeartbeats 4000000 in
set_option maxRecDepth 100000 in
theorem refmeet_any {w : World} {va vb : Value} {A0 B0 : LP} (ha : Its w va A0) (hb : Its w vb B0) (iA : Inside A0 0 64) (iB : Inside B0 0 64) (h9a : A0.length ≤ 100) (h9b : B0.length ≤ 100) :
    Calls Try.prog 19 #[va, vb] w fun e w' => (∃ r N, e = .returned r ∧ Spans w' w.heap.size r N ∧ Is N (fun x => hasB A0 x && hasB B0 x) ∧ N.length ≤ 32) ∧ Below w.heap.size w w' := by
  obtain ⟨i0, hi, hz0, hz1, hz2⟩ := info_get infoS
  have NA := Lib.hid (refnormal_any ha (by omega))
  have NB0 := Lib.hid fun (w' : World) (h' : Below w.heap.size w w') => refnormal_any (hb.keep h') (by omega)
  have JA := Lib.hid iA
  have JB := Lib.hid iB
  clear ha hb iA iB
  go_enter Try.func19, Try.ntmps19
  go_wp2_with fail
  refine NA.out.mono ?_
  rintro e w1 ⟨⟨r, A, rfl, OA, IsA, lA⟩, hb1⟩
  obtain ⟨n, hn⟩ : ∃ n, n = A.length := ⟨_, rfl⟩
  have h9n : n ≤ 100 := by omega
  replace hn := Lib.hid hn
  have CA := Lib.hid IsA.canon
  have IA := Lib.hid (IsA.inside JA.out)
  have HA0 := Lib.hid IsA.has
  clear lA IsA JA
  obtain ⟨xa, xc, rfl⟩ := own_len OA
  rw [← hn.out] at OA ⊢
  have NB := Lib.hid (NB0.out _ hb1)
  have FA0 := Lib.hid (fun (j : Nat) (p : Int × Int) (hj : A[j]? = some p) => own_get (L := A) (n := n) OA hj)
  have B1 := Lib.hid hb1
  clear OA hb1 NA NB0
  go_wp2_with fail
  refine NB.out.mono ?_
  rintro e w2 ⟨⟨r, B, rfl, OB, IsB, lB⟩, hb2⟩
  obtain ⟨m, hm⟩ : ∃ m, m = B.length := ⟨_, rfl⟩
  have h9m : m ≤ 100 := by omega
  replace hm := Lib.hid hm
  have CB := Lib.hid IsB.canon
  have IB := Lib.hid (IsB.inside JB.out)
  have HB0 := Lib.hid IsB.has
  clear lB IsB JB
  obtain ⟨ya, yc, rfl⟩ := own_len OB
  rw [← hm.out] at OB ⊢
  have FB := Lib.hid (fun (j : Nat) (p : Int × Int) (hj : B[j]? = some p) => own_get (L := B) (n := m) OB hj)
  have FA := Lib.hid (fun (j : Nat) (p : Int × Int) (hj : A[j]? = some p) => show n ≤ xc ∧ ∃ g, xa = some ⟨g, 0, none⟩ ∧ g < w2.heap.size ∧ w2.cell? ⟨g, j * 2, none⟩ = some (.int .i64 p.1) ∧ w2.cell? ⟨g, j * 2 + 1, none⟩ = some (.int .i64 p.2) from by
    obtain ⟨_, h2, g, e, hg, _, c0, c1, _⟩ := FA0.out j p hj
    exact ⟨h2, g, e, Nat.lt_of_lt_of_le hg hb2.size, (hb2.cell (p := ⟨g, _, none⟩) hg).trans c0, (hb2.cell (p := ⟨g, _, none⟩) hg).trans c1⟩)
  have B2 := Lib.hid (Buf.then_ B1.out hb2)
  have B0 := Lib.hid (Below.refl w2.heap.size w2)
  clear OB hb2 NB FA0 B1
  have Z0 : Hid (Spans w2 w2.heap.size (.slice none 0 0) []) := Lib.hid (World.ownsRow_nil _ _ _ _)
  have R0 := Lib.hid (Re.start A B)
  go_wp2_with fail
  go_loopw [7, 8] (fun s i wr => ∃ (kx : Nat) (N : LP), kx ≤ n ∧ i = .int .i64 kx ∧ Hid (Spans wr w2.heap.size s N) ∧ Hid (Re A B kx 0 N) ∧ Hid (Below w2.heap.size w2 wr)) (fun _ i _ => n - (intOf i).toNat)
  case atStart => exact ⟨0, [], Nat.zero_le _, rfl, Z0, R0, B0⟩
  case round =>
    clear B0 Z0 R0
    obtain ⟨kx, N, hk, rfl, O, RI, HB⟩ := hrel
    obtain ⟨sa, sc, rfl⟩ := own_len O.out
    by_cases hlt : kx < n
    · obtain ⟨wo, hwo⟩ : ∃ wo, wo = wr := ⟨_, rfl⟩
      subst hwo
      obtain ⟨⟨lo, t⟩, hp⟩ : ∃ p, A[kx]? = some p := ⟨A[kx]'(by rw [← hn.out]; exact hlt), List.getElem?_eq_getElem _⟩
      obtain ⟨hz2_, g, hxa, hg, q0, q1⟩ := FA.out _ _ hp
      have hin := IA.out _ (List.mem_of_getElem? hp)
      have lt := CA.out.at hp
      dsimp only at hin lt q0 q1
      subst hxa
      have kn : (kx : Int) < (n : Int) := by omega
      have RK := RI
      have HP := Lib.hid hp
      obtain ⟨i1, i2⟩ := hin
      clear q0 q1 hp
      go_wp2_with fail
      go_loopw [7, 9] (fun s v wr => ∃ (kz : Nat) (N : LP), kz ≤ m ∧ v = .int .i64 kz ∧ Hid (Spans wr w2.heap.size s N) ∧ Hid (Re A B kx kz N) ∧ Hid (Below w2.heap.size w2 wr)) (fun _ v _ => m - (intOf v).toNat)
      case atStart => exact ⟨0, N, Nat.zero_le _, rfl, O, RK, HB⟩
      case round =>
        have HBo := HB
        clear O RI RK HB
        obtain ⟨kz, N, hkz, rfl, O, RK, HB⟩ := hrel
        have hr9 := Re.short RK.out IA.out
        obtain ⟨sa, sc, rfl⟩ := own_len O.out
        obtain ⟨nl, hnl'⟩ : ∃ nl, N.length = nl := ⟨_, rfl⟩
        rw [hnl'] at O hr9
        try rw [hnl']
        have hnl := Lib.hid hnl'
        clear hnl'
        by_cases hlz : kz < m
        · obtain ⟨⟨u, v⟩, hq⟩ : ∃ p, B[kz]? = some p := ⟨B[kz]'(by rw [← hm.out]; exact hlz), List.getElem?_eq_getElem _⟩
          obtain ⟨hz1_, hz3_, gb, hya, hgb, _, q0, q1, _⟩ := FB.out _ _ hq
          obtain ⟨_, g', e, _, c0, c1⟩ := FA.out _ _ HP.out
          cases e
          have hinb := IB.out _ (List.mem_of_getElem? hq)
          have uv := CB.out.at hq
          dsimp only at hinb uv
          have V : Hid (∀ w', Below w2.heap.size w2 w' → w'.cell? ⟨g, kx * 2, none⟩ = some (.int .i64 lo) ∧ w'.cell? ⟨g, kx * 2 + 1, none⟩ = some (.int .i64 t) ∧ w'.cell? ⟨gb, kz * 2, none⟩ = some (.int .i64 u) ∧ w'.cell? ⟨gb, kz * 2 + 1, none⟩ = some (.int .i64 v)) := Lib.hid fun w' h => ⟨(h.cell (p := ⟨g, _, none⟩) hg).trans c0, (h.cell (p := ⟨g, _, none⟩) hg).trans c1, (h.cell (p := ⟨gb, _, none⟩) hgb).trans q0, (h.cell (p := ⟨gb, _, none⟩) hgb).trans q1⟩
          subst hya
          have km : (kz : Int) < (m : Int) := by omega
          obtain ⟨u1, u2⟩ := hinb
          have HQ := Lib.hid hq
          obtain ⟨mx, hmx⟩ : ∃ mx, mx = max lo u := ⟨_, rfl⟩
          obtain ⟨mn, hmn⟩ : ∃ mn, mn = min t v := ⟨_, rfl⟩
          have RN := Re.next RK.out CA.out CB.out HP.out HQ.out
          simp only [← hmx, ← hmn] at RN
          have mx0 : 0 ≤ mx := by omega
          have mx9 : mx ≤ 64 := by omega
          have mn0 : 0 ≤ mn := by omega
          have mn9 : mn ≤ 64 := by omega
          replace hmx := Lib.hid hmx
          replace hmn := Lib.hid hmn
          replace RN := Lib.hid RN
          clear c0 c1 q0 q1 hq hz1_ RK HQ
          go_upto_region 9 with fail
          obtain ⟨wq, hwq⟩ : ∃ wq, wq = wr := ⟨_, rfl⟩
          have bq := Lib.hid (show Below wr.heap.size wr wq by rw [hwq]; exact Below.refl _ _)
          have HBq := Lib.hid (Buf.then_ HB.out bq.out)
          have Oq := Lib.hid (own_below O.out bq.out)
          rw [← hwq]
          clear hwq
          go_cut [10] (fun v10 wz => ∃ (w4 : World) (b : Nat), w4 = wz ∧ wq.heap.size ≤ b ∧ v10 = .pointer (some ⟨b, 0, none⟩) ∧ w4.cell? ⟨b, 0, none⟩ = some (.int .i64 mx) ∧ w4.cell? ⟨b, 1, none⟩ = some (.int .i64 mn) ∧ Hid (Below wq.heap.size wq w4))
          case first =>
            obtain ⟨z0, z1, z2, z3⟩ := V.out _ HBq.out
            have ne1 := World.new_ne wq _ z0
            have ne2 := World.new_ne wq _ z2
            go_region_held3 (fun w' => w'.cell? ⟨g, kx * 2, none⟩ = some (.int .i64 lo) ∧ w'.cell? ⟨g, kx * 2 + 1, none⟩ = some (.int .i64 t) ∧ w'.cell? ⟨gb, kz * 2, none⟩ = some (.int .i64 u) ∧ w'.cell? ⟨gb, kz * 2 + 1, none⟩ = some (.int .i64 v)) (go_keep) (fail)
            all_goals go_wp2_with fail
            all_goals go_meet
            all_goals exact ⟨_, _, rfl, Nat.le_refl _, rfl, by rw [hmx.out]; exact (c2 (heap_alloc_new wq _)).1, by rw [hmn.out]; exact (c2 (heap_alloc_new wq _)).2, Lib.hid (Below.drew (new_block _))⟩
          case rest =>
          obtain ⟨w4, b, hw4, hbb, rfl, x0, x1, B4⟩ := hcut
          subst hw4
          have O4 := Lib.hid (own_below Oq.out B4.out)
          have H4 := Lib.hid (Buf.then_ HBq.out B4.out)
          clear O Oq HB HBq bq V hmx hmn B4
          by_cases c1 : mx < mn
          · rw [if_pos c1] at RN
            have d1 : decide (mx < mn) = true := decide_eq_true c1
            go_upto_region 11 with fail
            obtain ⟨wp, hwp⟩ : ∃ wp, wp = w4 := ⟨_, rfl⟩
            have bp := Lib.hid (show Below w4.heap.size w4 wp by rw [hwp]; repeat (first | exact Below.refl _ _ | refine Buf.below_drewN ?_ _))
            have k1' : wp.cell? ⟨b, 0, none⟩ = some (.int .i64 mx) := by rw [hwp]; exact x0
            have k2' : wp.cell? ⟨b, 1, none⟩ = some (.int .i64 mn) := by rw [hwp]; exact x1
            rw [← hwp]
            clear hwp
            have hb3 := Lib.hid (heap_alloc_new wp (.cells #[.int .i64 mx, .int .i64 mn] 49))
            have O3 := Lib.hid (own_below (own_below O4.out bp.out) (new_block (w := wp) (.cells #[.int .i64 mx, .int .i64 mn] 49)))
            unfold Spans at O3
            rw [hnl.out] at O3
            have one : Hid (∀ uu ∈ [Value.int .i64 mx, .int .i64 mn], uu.oneCell' = true) := Lib.hid (by intro uu hu; simp at hu; rcases hu with rfl | rfl <;> rfl)
            have hB3 := Lib.hid (show w2.heap.size ≤ (wp.alloc (.cells #[.int .i64 mx, .int .i64 mn] 49)).heap.size by have := H4.out.size; have := bp.out.size; simp; omega)
            go_wp2_with (at_builtin; refine wpList_append_lies _ rfl (.tmp 55) (.tmp 57) 23 rfl w2.heap.size 49 i0 (.agg #[.int .i64 0, .int .i64 0]) 2 16 Try.underlying23 hi hz0 hz1 hz2 rfl (by decide) _ nl (cells2 N) rfl O3.out ⟨wp.heap.size, 0, none⟩ 1 1 [.int .i64 mx, .int .i64 mn] rfl rfl (World.news_of_block hb3.out) one.out (by decide) (by unfold maxLen; omega) (by omega) hB3.out _ rfl ?_; intro gq cq w5 O2 G2 hg2 hl2)
            have O5 := Lib.hid (show Spans w5 w2.heap.size (.slice (some ⟨gq, 0, none⟩) (nl + 1) cq) (N ++ [(mx, mn)]) by
              unfold Spans
              rw [cells2_snoc, List.length_append, hnl.out]
              exact O2)
            have B5 := Lib.hid (show Below w2.heap.size w2 w5 from (Buf.then_ (Buf.then_ H4.out bp.out) (new_block (w := wp) (.cells #[.int .i64 mx, .int .i64 mn] 49))).grown G2 (by have := H4.out.size; have := bp.out.size; simp; omega) (fun b hb => (O3.out.lt b hb).1))
            clear O2 G2 hg2 hl2 O3 hb3 hB3 one bp
            go_roundw
            case rel => exact ⟨kz + 1, N ++ [(mx, mn)], by omega, by go_num, O5, RN, B5⟩
            case measure => simp [intOf]; omega
          · rw [if_neg c1] at RN
            have d1 : decide (mx < mn) = false := decide_eq_false c1
            go_wp2_with fail
            go_roundw
            case rel => exact ⟨kz + 1, N, by omega, by go_num, O4, RN, H4⟩
            case measure => simp [intOf]; omega
        · have RN := RK.out.turn CA.out HP.out (by rw [← hm.out]; omega)
          replace RN := Lib.hid RN
          clear RK
          go_wp2_with fail
          go_roundw
          case rel => exact ⟨kx + 1, N, by omega, by go_num, O, RN, HB⟩
          case measure => simp [intOf]; omega
    · obtain rfl : kx = n := by omega
      have RX := RI.out.stop (by rw [← hn.out]; exact Nat.le_refl _)
      have sh := RI.out.short IA.out
      have NX := Lib.hid (refnormal_canon (its_of_own O.out) RX.canon (by omega))
      go_wp2_with fail
      refine NX.out.mono ?_
      rintro e w4 ⟨⟨r, rfl, O4⟩, B4⟩
      go_wp2_with fail
      go_ret
      exact ⟨⟨_, N, rfl, own_mono O4 (Nat.le_trans B2.out.size HB.out.size), RX.congr (fun x => by rw [HA0.out, HB0.out]), sh⟩, Buf.then_ (Buf.then_ B2.out HB.out) B4⟩
theorem refminus_rv {w : World} {va vb : Value} {f g : Int → Bool} (ha : Rv w va f 32) (hb : Rv w vb g 32) : Calls Try.prog 21 #[va, vb] w (Made w (fun x => f x && !g x) 32) := by
  have hfa := ha
  obtain ⟨A, h1, h2, h3, h4⟩ := ha
  obtain ⟨B, b1, b2, b3, b4⟩ := hb
  refine (refminus_any h1 b1 h4 b4 (by omega) (by omega)).mono fun e w' h => made (B := w.heap.size) ?_ fun x hx => hfa.bd (Bool.and_eq_true_iff.1 hx).1
  obtain ⟨⟨r, N, a1, a2, a3, a4⟩, a5⟩ := h
  exact ⟨⟨r, N, a1, a2, a3.congr fun x => by rw [h2, b2], a4⟩, a5⟩
end Spn
end Go.Proofs.Ytfmhfhggogjbkaa

/- ref11.Lose. -/
set_option linter.unusedVariables false
set_option linter.unusedSimpArgs false
namespace Go.Proofs.Ytfmhfhggogjbkaa
open Go.RowKit Dice Wi
namespace Rcv
open Spn
set_option maxHeartbeats 8000000 in
set_option maxRecDepth 100000 in
theorem reflose_any {w : World} {vg vl : Value} {f g : Int → Bool} (h : Rc w vg vl f g) (q : Int) (q0 : 0 ≤ q) (q9 : q < 60) :
    Calls Try.prog 42 #[.agg #[vg, vl], .int .i64 q] w fun e w' => Los f g q w' e ∧ Below w.heap.size w w' := by
  obtain ⟨ga, gn, gc, rfl, _⟩ := Sv.form h.got
  obtain ⟨la, ln, lc, rfl, _⟩ := Sv.form h.lost
  have AP2 := Lib.hid (show ∀ x, (f x && (fun x => g x || (decide (0 ≤ x ∧ x < q) && !f x)) x) = false from fun x => by
    have := h.apart x
    cases hf : f x <;> simp [hf] at this ⊢
    exact this)
  have HR := Lib.hid h
  clear h
  go_enter Try.func42, Try.ntmps42
  obtain ⟨bb, hbb⟩ : ∃ bb, bb = w.heap.size := ⟨_, rfl⟩
  obtain ⟨wb, hwb⟩ : ∃ wb, wb = (w.alloc (.cells #[.slice ga gn gc, .slice la ln lc] 46)).alloc (.cells #[.slice none 0 0, .slice none 0 0] 46) := ⟨_, rfl⟩
  have B0 := Lib.hid (show Below w.heap.size w wb by rw [hwb]; exact Buf.then_ (new_block _) (new_block _))
  have PX : wb.heap[bb]? = some (.cells #[.slice ga gn gc, .slice la ln lc] 46 (0, 0)) := by rw [hwb, hbb]; exact hop (new_block _) (heap_alloc_new w _)
  have PY : wb.heap[bb + 1]? = some (.cells #[.slice none 0 0, .slice none 0 0] 46 (0, 0)) := by
    have e : (w.alloc (.cells #[.slice ga gn gc, .slice la ln lc] 46)).heap.size = bb + 1 := by rw [hbb]; simp
    rw [hwb, ← e]; exact heap_alloc_new _ _
  obtain ⟨k0, k1⟩ := Spn.c2 PX
  have V := Lib.hid (refvalid11_yes (HR.out.keep B0.out))
  have PX' := Lib.hid PX
  have PY' := Lib.hid PY
  clear PX PY
  go_wp2_with fail
  rw [← hwb, ← hbb]
  refine V.out.mono ?_
  rintro e w1 ⟨rfl, hb⟩
  clear k0 k1 V
  replace PX' := Lib.hid (hop hb PX'.out)
  replace PY' := Lib.hid (hop hb PY'.out)
  replace B0 := Lib.hid (Buf.then_ B0.out hb)
  clear hb
  replace hwb := Lib.hid hwb
  replace hbb := Lib.hid hbb
  obtain ⟨k0, k1⟩ := Spn.c2 PX'.out
  have KA : ∀ (o : Obj), (w1.alloc o).cell? ⟨bb, 0, none⟩ = some (.slice ga gn gc) := fun o => (Spn.c2 (hop ((Below.refl w1.heap.size w1).alloc (Nat.le_refl _) o) PX'.out)).1
  go_wp2_with (go_at_call 62; refine (refin_b _ _ _ _ (by omega) (by omega)).mono ?_; rintro e w' ⟨rfl, hweq⟩; subst hweq)
  obtain ⟨wA, hwA⟩ : ∃ wA, wA = w'.alloc (.cells #[.int .i64 0, .int .i64 q] 49) := ⟨_, rfl⟩
  obtain ⟨bo, hbo⟩ : ∃ bo, bo = w'.heap.size := ⟨_, rfl⟩
  obtain ⟨br, hbr'⟩ : ∃ br, br = bb + 1 := ⟨_, rfl⟩
  have BX : Below w'.heap.size w' wA := by rw [hwA]; exact (Below.refl _ _).alloc (Nat.le_refl _) _
  have PO : wA.heap[bo]? = some (.cells #[.int .i64 0, .int .i64 q] 49 (0, 0)) := by rw [hwA, hbo]; exact heap_alloc_new w' _
  have hbr : w.heap.size ≤ br := by have := hbb.out; omega
  rw [← hwA, ← hbo]
  rw [← hbr'] at PY'
  have BA := Lib.hid (Buf.then_ B0.out BX)
  have PXA := Lib.hid (hop BX PX'.out)
  have PYA := Lib.hid (hop BX PY'.out)
  have M := Lib.hid (refminus_rv (by obtain ⟨L_, a1, a2, a3, a4⟩ := rv_one PO (Int.le_refl 0) (show q ≤ 64 by omega); exact ⟨L_, a1, a2, by omega, a4⟩) (HR.out.keep BA.out).got.rv)
  clear BX PO B0 PX' PY' k0 k1 KA hwA hbo
  refine M.out.mono ?_
  rintro e wS ⟨⟨r, rfl, hS⟩, hb⟩
  obtain ⟨ha, hn, hc, rfl, _⟩ := Sv.form hS
  have BS := Lib.hid (Buf.then_ BA.out hb)
  have PBx := Lib.hid (hop hb PXA.out)
  have PR := Lib.hid (hop hb PYA.out)
  have PB := Lib.hid fun wx (hb : Below wS.heap.size wS wx) => Spn.c2 (hop hb PBx.out)
  have RG := Lib.hid fun wx (hb : Below wS.heap.size wS wx) => (HR.out.keep (Buf.then_ BS.out hb)).got
  have RL := Lib.hid fun wx (hb : Below wS.heap.size wS wx) => (HR.out.keep (Buf.then_ BS.out hb)).lost
  have RH := Lib.hid fun wx (hb : Below wS.heap.size wS wx) => Sv.short (hS.keep hb)
  clear BA PXA PYA M hS hb HR hbb hwb
  go_upto_region 6 with fail
  rw [← hbr']
  clear hbr'
  have hw0 : Below wS.heap.size wS wS.drew := (Below.refl _ _).drew
  refine wp_region_noPanic ?_
  refine wp_region_any (by kernel_rfl) ?_
  refine Inv.wpAny_inv (fun k => k == 11 || k == 12) [21, 22, 23, 24, 25, 26, 27, 28, 29, 30, 31] (fun w' => Below wS.heap.size wS w') (fun _ w1 w2 => Below w1.heap.size w1 w2) (fun k => ([fun v_ w_ => v_ = .pointer (some ⟨bb, 0, none⟩), fun v_ w_ => v_ = .slice ga gn gc, fun v_ w_ => ∃ a n c, v_ = .slice a n c ∧ Sv w_ (.slice a n c) f 32, fun v_ w_ => v_ = .pointer (some ⟨bb, 1, none⟩), fun v_ w_ => v_ = .slice la ln lc, fun v_ w_ => v_ = .slice ha hn hc, fun v_ w_ => ∃ a n c, v_ = .slice a n c ∧ Sv w_ (.slice a n c) (fun x => g x || (decide (0 ≤ x ∧ x < q) && !f x)) (32 + 32), fun v_ w_ => ∃ a n c a' n' c', v_ = .agg #[.slice a n c, .slice a' n' c'] ∧ Sv w_ (.slice a n c) f 32 ∧ Sv w_ (.slice a' n' c') (fun x => g x || (decide (0 ≤ x ∧ x < q) && !f x)) (32 + 32), fun v_ w_ => ∃ a n c a' n' c', v_ = .tuple #[.agg #[.slice a n c, .slice a' n' c'], .int .i64 0] ∧ Sv w_ (.slice a n c) f 32 ∧ Sv w_ (.slice a' n' c') (fun x => g x || (decide (0 ≤ x ∧ x < q) && !f x)) (32 + 32), fun v_ w_ => ∃ a n c a' n' c', v_ = .agg #[.slice a n c, .slice a' n' c'] ∧ Sv w_ (.slice a n c) f 32 ∧ Sv w_ (.slice a' n' c') (fun x => g x || (decide (0 ≤ x ∧ x < q) && !f x)) (32 + 32), fun v_ w_ => v_ = .int .i64 0, fun v_ w_ => True, fun v_ w_ => True] : List (Value → World → Prop)).getD k (fun _ _ => True)) _ (fun σ => by simp only [Inv.putAll, List.foldl_cons, List.foldl_nil, Act.put, List.setIfInBounds_toArray, List.set_cons_zero, List.set_cons_succ]; rfl) (by kernel_rfl) (by kernel_rfl) ?_ hw0 ?_ ?_ 2 #[true, true, true, true, true, true, true, true, true, true, true, false, false] (by kernel_rfl) (by kernel_rfl) ?_
  · intro j k v w1 w2 hjk hv hr
    rcases k with _ | k
    · exact hv
    rcases k with _ | k
    · exact hv
    rcases k with _ | k
    · exact by obtain ⟨a, n, c, e, h⟩ := hv; exact ⟨a, n, c, e, h.keep hr⟩
    rcases k with _ | k
    · exact hv
    rcases k with _ | k
    · exact hv
    rcases k with _ | k
    · exact hv
    rcases k with _ | k
    · exact by obtain ⟨a, n, c, e, h⟩ := hv; exact ⟨a, n, c, e, h.keep hr⟩
    rcases k with _ | k
    · exact by obtain ⟨a, n, c, a', n', c', e, h, h'⟩ := hv; exact ⟨a, n, c, a', n', c', e, h.keep hr, h'.keep hr⟩
    rcases k with _ | k
    · exact by obtain ⟨a, n, c, a', n', c', e, h, h'⟩ := hv; exact ⟨a, n, c, a', n', c', e, h.keep hr, h'.keep hr⟩
    rcases k with _ | k
    · exact by obtain ⟨a, n, c, a', n', c', e, h, h'⟩ := hv; exact ⟨a, n, c, a', n', c', e, h.keep hr, h'.keep hr⟩
    rcases k with _ | k
    · exact hv
    rcases k with _ | k
    · exact hv
    rcases k with _ | k
    · exact hv
    · exact hv
  · intro k t hl hd
    rcases k with _ | k
    · exact absurd hl (by decide +kernel)
    rcases k with _ | k
    · exact absurd hl (by decide +kernel)
    rcases k with _ | k
    · exact absurd hl (by decide +kernel)
    rcases k with _ | k
    · exact absurd hl (by decide +kernel)
    rcases k with _ | k
    · exact absurd hl (by decide +kernel)
    rcases k with _ | k
    · exact absurd hl (by decide +kernel)
    rcases k with _ | k
    · exact absurd hl (by decide +kernel)
    rcases k with _ | k
    · exact absurd hl (by decide +kernel)
    rcases k with _ | k
    · exact absurd hl (by decide +kernel)
    rcases k with _ | k
    · exact absurd hl (by decide +kernel)
    rcases k with _ | k
    · exact absurd hl (by decide +kernel)
    rcases k with _ | k
    · exact absurd hl (by decide +kernel)
    rcases k with _ | k
    · exact absurd hl (by decide +kernel)
    · simp at hd
  · show Inv.Steps _ _ _ _ _ _ _ _ [0, 1, 2, 3, 4, 5, 6, 7, 8, 9, 10]
    refine Inv.Steps.go (by decide) (by rfl) (fun σ wx hw hd K hK => ?_) ?_
    · simp only [List.getElem_toArray, List.getElem_cons_zero, List.getElem_cons_succ, Act.put, List.setIfInBounds_toArray, List.set_cons_zero, List.set_cons_succ] at hK ⊢
      go_simp
      exact hK.out _ _ hw (Below.refl _ _) (rfl)
    refine Inv.Steps.go (by decide) (by rfl) (fun σ wx hw hd K hK => ?_) ?_
    · obtain e21 : (σ 21) = .pointer (some ⟨bb, 0, none⟩) := hd 0 (some 21) (by kernel_rfl) (by rfl)
      simp only [List.getElem_toArray, List.getElem_cons_zero, List.getElem_cons_succ, Act.put, List.setIfInBounds_toArray, List.set_cons_zero, List.set_cons_succ, e21] at hK ⊢
      obtain ⟨k0, k1_⟩ := PB.out _ hw
      go_simp
      exact hK.out _ _ hw (Below.refl _ _) (rfl)
    refine Inv.Steps.go (by decide) (by rfl) (fun σ wx hw hd K hK => ?_) ?_
    · obtain e22 : (σ 22) = .slice ga gn gc := hd 1 (some 22) (by kernel_rfl) (by rfl)
      simp only [List.getElem_toArray, List.getElem_cons_zero, List.getElem_cons_succ, Act.put, List.setIfInBounds_toArray, List.set_cons_zero, List.set_cons_succ, e22] at hK ⊢
      obtain ⟨N, hN, hNI, hNl, hNn⟩ := RG.out _ hw
      refine wp_spans (.const (.slice none 0 0)) (.tmp 22) rfl (by simp [Act.eval]) (by simp [Act.eval]) (show Sp.Spans wx wx.heap.size (.slice none 0 0) [] from World.ownsRow_nil _ _ _ _) hN (Nat.le_refl _) (by simp; omega) ?_
      intro v' w' O1 G1
      rw [List.nil_append] at O1
      have hb := (Below.refl wx.heap.size wx).grown G1 (Nat.le_refl _) (fun k hk => by cases hk)
      have hS : Sv w' v' f 32 := ⟨N, its_of_own O1, hNI, hNl, hNn⟩
      obtain ⟨ra, rn, rc, rfl, _⟩ := Sv.form hS
      exact hK.out _ _ (Buf.then_ hw hb) hb (⟨_, _, _, rfl, hS⟩)
    refine Inv.Steps.go (by decide) (by rfl) (fun σ wx hw hd K hK => ?_) ?_
    · simp only [List.getElem_toArray, List.getElem_cons_zero, List.getElem_cons_succ, Act.put, List.setIfInBounds_toArray, List.set_cons_zero, List.set_cons_succ] at hK ⊢
      go_simp
      exact hK.out _ _ hw (Below.refl _ _) (rfl)
    refine Inv.Steps.go (by decide) (by rfl) (fun σ wx hw hd K hK => ?_) ?_
    · obtain e24 : (σ 24) = .pointer (some ⟨bb, 1, none⟩) := hd 3 (some 24) (by kernel_rfl) (by rfl)
      simp only [List.getElem_toArray, List.getElem_cons_zero, List.getElem_cons_succ, Act.put, List.setIfInBounds_toArray, List.set_cons_zero, List.set_cons_succ, e24] at hK ⊢
      obtain ⟨k0, k1_⟩ := PB.out _ hw
      go_simp
      exact hK.out _ _ hw (Below.refl _ _) (rfl)
    refine Inv.Steps.go (by decide) (by rfl) (fun σ wx hw hd K hK => ?_) ?_
    · simp only [List.getElem_toArray, List.getElem_cons_zero, List.getElem_cons_succ, Act.put, List.setIfInBounds_toArray, List.set_cons_zero, List.set_cons_succ] at hK ⊢
      go_simp
      exact hK.out _ _ hw (Below.refl _ _) (rfl)
    refine Inv.Steps.go (by decide) (by rfl) (fun σ wx hw hd K hK => ?_) ?_
    · obtain e25 : (σ 25) = .slice la ln lc := hd 4 (some 25) (by kernel_rfl) (by rfl)
      obtain e26 : (σ 26) = .slice ha hn hc := hd 5 (some 26) (by kernel_rfl) (by rfl)
      simp only [List.getElem_toArray, List.getElem_cons_zero, List.getElem_cons_succ, Act.put, List.setIfInBounds_toArray, List.set_cons_zero, List.set_cons_succ, e25, e26] at hK ⊢
      go_simp
      go_at_call 17
      refine (refunion_sv (RL.out _ hw).rv (RH.out _ hw).rv (by omega) (by omega)).mono ?_
      rintro e w1 ⟨⟨r, rfl, hS⟩, hb⟩
      dsimp only
      obtain ⟨ra, rn, rc, rfl, _⟩ := Sv.form hS
      exact hK.out _ _ (Buf.then_ hw hb) hb (⟨_, _, _, rfl, hS⟩)
    refine Inv.Steps.go (by decide) (by rfl) (fun σ wx hw hd K hK => ?_) ?_
    · obtain ⟨ua, un, uc, e23, S23⟩ : ∃ a n c, (σ 23) = .slice a n c ∧ Sv wx (.slice a n c) f 32 := hd 2 (some 23) (by kernel_rfl) (by rfl)
      obtain ⟨va, vn, vc, e27, S27⟩ : ∃ a n c, (σ 27) = .slice a n c ∧ Sv wx (.slice a n c) (fun x => g x || (decide (0 ≤ x ∧ x < q) && !f x)) (32 + 32) := hd 6 (some 27) (by kernel_rfl) (by rfl)
      simp only [List.getElem_toArray, List.getElem_cons_zero, List.getElem_cons_succ, Act.put, List.setIfInBounds_toArray, List.set_cons_zero, List.set_cons_succ, e23, e27] at hK ⊢
      go_simp
      exact hK.out _ _ hw (Below.refl _ _) (⟨_, _, _, _, _, _, rfl, S23, S27⟩)
    refine Inv.Steps.go (by decide) (by rfl) (fun σ wx hw hd K hK => ?_) ?_
    · obtain ⟨ua, un, uc, va, vn, vc, e28, S23, S27⟩ : ∃ a n c a' n' c', (σ 28) = .agg #[.slice a n c, .slice a' n' c'] ∧ Sv wx (.slice a n c) f 32 ∧ Sv wx (.slice a' n' c') (fun x => g x || (decide (0 ≤ x ∧ x < q) && !f x)) (32 + 32) := hd 7 (some 28) (by kernel_rfl) (by rfl)
      simp only [List.getElem_toArray, List.getElem_cons_zero, List.getElem_cons_succ, Act.put, List.setIfInBounds_toArray, List.set_cons_zero, List.set_cons_succ, e28] at hK ⊢
      have n1 := Sv.len S23
      have n2 := Sv.len S27
      go_simp
      go_at_call 66
      refine (reflimited_any _ _ _ _ _ _ (by omega) (by omega) _).mono ?_
      rintro e w1 ⟨rfl, hb⟩
      dsimp only
      exact hK.out _ _ (Buf.then_ hw hb) hb (⟨_, _, _, _, _, _, rfl, S23.keep hb, S27.keep hb⟩)
    refine Inv.Steps.go (by decide) (by rfl) (fun σ wx hw hd K hK => ?_) ?_
    · obtain ⟨ua, un, uc, va, vn, vc, e29, S23, S27⟩ : ∃ a n c a' n' c', (σ 29) = .tuple #[.agg #[.slice a n c, .slice a' n' c'], .int .i64 0] ∧ Sv wx (.slice a n c) f 32 ∧ Sv wx (.slice a' n' c') (fun x => g x || (decide (0 ≤ x ∧ x < q) && !f x)) (32 + 32) := hd 8 (some 29) (by kernel_rfl) (by rfl)
      simp only [List.getElem_toArray, List.getElem_cons_zero, List.getElem_cons_succ, Act.put, List.setIfInBounds_toArray, List.set_cons_zero, List.set_cons_succ, e29] at hK ⊢
      go_simp
      exact hK.out _ _ hw (Below.refl _ _) (⟨_, _, _, _, _, _, rfl, S23, S27⟩)
    refine Inv.Steps.go (by decide) (by rfl) (fun σ wx hw hd K hK => ?_) ?_
    · obtain ⟨ua, un, uc, va, vn, vc, e29, S23, S27⟩ : ∃ a n c a' n' c', (σ 29) = .tuple #[.agg #[.slice a n c, .slice a' n' c'], .int .i64 0] ∧ Sv wx (.slice a n c) f 32 ∧ Sv wx (.slice a' n' c') (fun x => g x || (decide (0 ≤ x ∧ x < q) && !f x)) (32 + 32) := hd 8 (some 29) (by kernel_rfl) (by rfl)
      simp only [List.getElem_toArray, List.getElem_cons_zero, List.getElem_cons_succ, Act.put, List.setIfInBounds_toArray, List.set_cons_zero, List.set_cons_succ, e29] at hK ⊢
      go_simp
      exact hK.out _ _ hw (Below.refl _ _) (rfl)
    exact Inv.Steps.nil
  · intro σ wx hw hd
    obtain ⟨ua, un, uc, va, vn, vc, e30, S23, S27⟩ : ∃ a n c a' n' c', (σ 30) = .agg #[.slice a n c, .slice a' n' c'] ∧ Sv wx (.slice a n c) f 32 ∧ Sv wx (.slice a' n' c') (fun x => g x || (decide (0 ≤ x ∧ x < q) && !f x)) (32 + 32) := hd 9 (some 30) (by rfl) (by rfl)
    obtain e31 : (σ 31) = .int .i64 0 := hd 10 (some 31) (by rfl) (by rfl)
    simp only [e30, e31]
    have P4 := hop hw PR.out
    obtain ⟨k0, k1_⟩ := Spn.c2 P4
    have f0 := frozen_of_row wx br 0 _ _ P4
    have f1 := frozen_of_row wx br 1 _ _ P4
    refine Inv.one (i := 11) (by decide) (by kernel_rfl) (by rfl) (fun K hK => ?_)
    simp only [List.getElem_toArray, List.getElem_cons_zero, List.getElem_cons_succ, Act.put, List.setIfInBounds_toArray, List.set_cons_zero, List.set_cons_succ] at hK ⊢
    go_simp
    refine hK.out _ _ ?_
    clear hK K
    refine Inv.take (i := 12) (v := .int .i64 0) (by decide) rfl (by kernel_rfl) (by kernel_rfl) (by kernel_rfl) (fun _ _ _ h => h) (by rfl) (fun w' => ?_) ?_
    · simp only [List.getElem_toArray, List.getElem_cons_zero, List.getElem_cons_succ]
      go_simp
    try simp only [Act.put, List.setIfInBounds_toArray, List.set_cons_zero, List.set_cons_succ]
    refine Inv.done (by kernel_rfl) (NoPanic.normal ?_)
    have Q4 := (heap_setCell_same wx br 0 _ _ (.slice ua un uc) P4).trans rfl
    have Z4 := (heap_setCell_same (wx.setCell ⟨br, 0, none⟩ (.slice ua un uc)) br 1 _ _ (.slice va vn vc) Q4).trans rfl
    have RR := Lib.hid (show Rc _ _ _ _ _ from ⟨Rcv.Sv.set (Rcv.Sv.set S23 P4 (o := 0) (.slice ua un uc)) Q4 (o := 1) (.slice va vn vc), Sv.short (Rcv.Sv.set (Rcv.Sv.set S27 P4 (o := 0) (.slice ua un uc)) Q4 (o := 1) (.slice va vn vc)), AP2.out⟩)
    have BQ := Lib.hid (((BS.out.trans (hw.mono BS.out.size)).setCell (p := ⟨br, 0, none⟩) hbr (.slice ua un uc)).setCell (p := ⟨br, 1, none⟩) hbr (.slice va vn vc))
    clear k0 k1_ f0 f1 P4 Q4 hd hw e30 S23 S27
    generalize (wx.setCell ⟨br, 0, none⟩ (.slice ua un uc)).setCell ⟨br, 1, none⟩ (.slice va vn vc) = wU at *
    obtain ⟨k0, k1_⟩ := Spn.c2 Z4
    clear Z4
    go_wp2_with fail
    refine bodyPost_ret (v := .tuple #[.agg #[.slice ua un uc, .slice va vn vc], .int .i64 0]) (by simp [results, Try.results42, go_sem, k0, k1_]) rfl ⟨⟨_, _, rfl, RR.out⟩, BQ.out⟩
end Rcv
end Go.Proofs.Ytfmhfhggogjbkaa
