/- receiver.Missing, Settled. -/
import Derived.Test.YtfmhfhggogjbkaaRcvC
import Derived.Lib.MinMax
set_option linter.unusedVariables false
set_option linter.unusedSimpArgs false
namespace Go.Proofs.Ytfmhfhggogjbkaa
open Go.RowKit Dice Wi
namespace Rcv
open Spn
@[go_sem high] theorem run_max_ints3 {P : Program} (w : World) (ts : Array TypeId) (t : TypeId) (k k' k'' : IntKind) (x y z : Int) :
    (Builtin.max_ ts t #[.int k x, .int k' y, .int k'' z]).run P w = .ok (.int k (max (max x y) z)) w := by
  have e : (if y > x then y else x) = max x y := by
    rw [Int.max_def]
    split <;> split <;> omega
  have e' : (if z > max x y then z else max x y) = max (max x y) z := by
    rw [Int.max_def (max x y) z]
    split <;> split <;> omega
  simp [Builtin.max_, Builtin.max2, e, e']
def EndP (f : Int → Bool) (t : Int) : Prop := 0 ≤ t ∧ t ≤ 64 ∧ (∀ x, f x = true → x < t) ∧ (t = 0 ∨ f (t - 1) = true)
/-- The greatest of a number and of what lies behind both sets. -/
def TopP (f g : Int → Bool) (q t : Int) : Prop := q ≤ t ∧ 0 ≤ t ∧ t ≤ 64 ∧ (∀ x, f x = true → x < t) ∧ (∀ x, g x = true → x < t) ∧ (t = q ∨ t = 0 ∨ f (t - 1) = true ∨ g (t - 1) = true)
theorem top_max {f g : Int → Bool} {q a b : Int} (h1 : EndP f a) (h2 : EndP g b) (q0 : 0 ≤ q) (q9 : q < 60) : TopP f g q (max q (max a b)) := by
  obtain ⟨a1, a2, a3, a4⟩ := h1
  obtain ⟨b1, b2, b3, b4⟩ := h2
  refine ⟨by omega, by omega, by omega, fun x hx => by have := a3 x hx; omega, fun x hx => by have := b3 x hx; omega, ?_⟩
  rcases (show max q (max a b) = q ∨ max q (max a b) = a ∨ max q (max a b) = b by omega) with e | e | e
  · exact .inl e
  · rw [e]; rcases a4 with h | h
    · exact .inr (.inl h)
    · exact .inr (.inr (.inl h))
  · rw [e]; rcases b4 with h | h
    · exact .inr (.inl h)
    · exact .inr (.inr (.inr h))
/-- What Missing returns. -/
def Mis (f g : Int → Bool) (q : Int) (w : World) (e : Ending) : Prop := ∃ v t, e = .returned (.tuple #[v, .int .i64 0]) ∧ TopP f g q t ∧ Sv w v (fun x => (decide (0 ≤ x ∧ x < t) && !f x) && !g x) 32
set_option maxHeartbeats 8000000 in
set_option maxRecDepth 100000 in
theorem missing_any {w : World} {vg vl : Value} {f g : Int → Bool} (h : Rc w vg vl f g) (q : Int) (q0 : 0 ≤ q) (q9 : q < 60) :
    Calls Try.prog 44 #[.agg #[vg, vl], .int .i64 q] w fun e w' => Mis f g q w' e ∧ Below w.heap.size w w' := by
  obtain ⟨ga, gn, gc, rfl, _⟩ := Sv.form h.got
  obtain ⟨la, ln, lc, rfl, _⟩ := Sv.form h.lost
  have HR := Lib.hid h
  clear h
  go_enter Try.func44, Try.ntmps44
  obtain ⟨bb, hbb⟩ : ∃ bb, bb = w.heap.size := ⟨_, rfl⟩
  obtain ⟨wb, hwb⟩ : ∃ wb, wb = w.alloc (.cells #[.slice ga gn gc, .slice la ln lc] 46) := ⟨_, rfl⟩
  have B0 := Lib.hid (show Below w.heap.size w wb by rw [hwb]; exact new_block _)
  have PX : wb.heap[bb]? = some (.cells #[.slice ga gn gc, .slice la ln lc] 46 (0, 0)) := by rw [hwb, hbb]; exact heap_alloc_new w _
  obtain ⟨k0, k1⟩ := c2 PX
  have V := Lib.hid (valid_any (HR.out.keep B0.out))
  have PX' := Lib.hid PX
  clear PX
  go_wp2_with fail
  rw [← hwb, ← hbb]
  refine V.out.mono ?_
  rintro e w1 ⟨rfl, hb⟩
  clear k0 k1 V
  replace PX' := Lib.hid (hop hb PX'.out)
  replace B0 := Lib.hid (Buf.then_ B0.out hb)
  clear hb
  replace hwb := Lib.hid hwb
  replace hbb := Lib.hid hbb
  go_upto_region 5 with (go_at_call 64; refine (within_yes _ _ _ _ (by omega) (by omega)).mono ?_; rintro e w' ⟨rfl, mq, rfl⟩)
  obtain ⟨wS, hwS⟩ : ∃ wS, wS = w1.drewN mq := ⟨_, rfl⟩
  have BX : Below w1.heap.size w1 wS := by rw [hwS]; exact Buf.below_drewN (Below.refl _ _) mq
  rw [← hwS]
  have BS := Lib.hid (Buf.then_ B0.out BX)
  have PBx := Lib.hid (hop BX PX'.out)
  have PB := Lib.hid fun wx (hb : Below wS.heap.size wS wx) => c2 (hop hb PBx.out)
  have RG := Lib.hid fun wx (hb : Below wS.heap.size wS wx) => (HR.out.keep (Buf.then_ BS.out hb)).got
  have RL := Lib.hid fun wx (hb : Below wS.heap.size wS wx) => (HR.out.keep (Buf.then_ BS.out hb)).lost
  clear BX B0 PX' HR hwS hbb hwb
  have hw0 : Below wS.heap.size wS wS.drew := (Below.refl _ _).drew
  refine wp_region_noPanic ?_
  refine wp_region_any (by kernel_rfl) ?_
  refine Inv.wpAny_inv (fun k => k == 10) [13, 14, 15, 16, 17, 18, 19, 20, 21, 22] (fun w' => Below wS.heap.size wS w') (fun _ w1 w2 => Below w1.heap.size w1 w2) (fun k => ([fun v_ w_ => v_ = .int .i64 q, fun v_ w_ => v_ = .pointer (some ⟨bb, 0, none⟩), fun v_ w_ => v_ = .slice ga gn gc, fun v_ w_ => ∃ t : Int, v_ = .int .i64 t ∧ EndP f t, fun v_ w_ => v_ = .pointer (some ⟨bb, 1, none⟩), fun v_ w_ => v_ = .slice la ln lc, fun v_ w_ => ∃ t : Int, v_ = .int .i64 t ∧ EndP g t, fun v_ w_ => ∃ t : Int, v_ = .int .i64 t ∧ TopP f g q t, fun v_ w_ => ∃ t : Int, v_ = .agg #[.int .i64 0, .int .i64 t] ∧ TopP f g q t, fun v_ w_ => ∃ (h : Nat) (t : Int), v_ = .slice (some ⟨h, 0, none⟩) 1 1 ∧ TopP f g q t ∧ w_.heap[h]? = some (.cells #[.int .i64 0, .int .i64 t] 49 (0, 0)), fun v_ w_ => True] : List (Value → World → Prop)).getD k (fun _ _ => True)) _ (fun σ => by simp only [Inv.putAll, List.foldl_cons, List.foldl_nil, Act.put, List.setIfInBounds_toArray, List.set_cons_zero, List.set_cons_succ]; rfl) (by kernel_rfl) (by kernel_rfl) ?_ hw0 ?_ ?_ 1 #[true, true, true, true, true, true, true, true, true, true, false] (by kernel_rfl) (by kernel_rfl) ?_
  · intro j k v w1 w2 hjk hv hr
    rcases k with _ | k
    · exact hv
    rcases k with _ | k
    · exact hv
    rcases k with _ | k
    · exact hv
    rcases k with _ | k
    · exact hv
    rcases k with _ | k
    · exact hv
    rcases k with _ | k
    · exact hv
    rcases k with _ | k
    · exact hv
    rcases k with _ | k
    · exact hv
    rcases k with _ | k
    · exact hv
    rcases k with _ | k
    · exact by obtain ⟨h, t, e, h1, h2⟩ := hv; exact ⟨h, t, e, h1, hop hr h2⟩
    rcases k with _ | k
    · exact hv
    · exact hv
  · intro k t hl hd
    rcases k with _ | k
    · exact absurd hl (by decide +kernel)
    rcases k with _ | k
    · exact absurd hl (by decide +kernel)
    rcases k with _ | k
    · exact absurd hl (by decide +kernel)
    rcases k with _ | k
    · exact absurd hl (by decide +kernel)
    rcases k with _ | k
    · exact absurd hl (by decide +kernel)
    rcases k with _ | k
    · exact absurd hl (by decide +kernel)
    rcases k with _ | k
    · exact absurd hl (by decide +kernel)
    rcases k with _ | k
    · exact absurd hl (by decide +kernel)
    rcases k with _ | k
    · exact absurd hl (by decide +kernel)
    rcases k with _ | k
    · exact absurd hl (by decide +kernel)
    rcases k with _ | k
    · exact absurd hl (by decide +kernel)
    · simp at hd
  · show Inv.Steps _ _ _ _ _ _ _ _ [0, 1, 2, 3, 4, 5, 6, 7, 8, 9]
    refine Inv.Steps.go (by decide) (by rfl) (fun σ wx hw hd K hK => ?_) ?_
    · simp only [List.getElem_toArray, List.getElem_cons_zero, List.getElem_cons_succ, Act.put, List.setIfInBounds_toArray, List.set_cons_zero, List.set_cons_succ] at hK ⊢
      go_simp
      exact hK.out _ _ hw (Below.refl _ _) (rfl)
    refine Inv.Steps.go (by decide) (by rfl) (fun σ wx hw hd K hK => ?_) ?_
    · simp only [List.getElem_toArray, List.getElem_cons_zero, List.getElem_cons_succ, Act.put, List.setIfInBounds_toArray, List.set_cons_zero, List.set_cons_succ] at hK ⊢
      go_simp
      exact hK.out _ _ hw (Below.refl _ _) (rfl)
    refine Inv.Steps.go (by decide) (by rfl) (fun σ wx hw hd K hK => ?_) ?_
    · obtain e14 : (σ 14) = .pointer (some ⟨bb, 0, none⟩) := hd 1 (some 14) (by kernel_rfl) (by rfl)
      simp only [List.getElem_toArray, List.getElem_cons_zero, List.getElem_cons_succ, Act.put, List.setIfInBounds_toArray, List.set_cons_zero, List.set_cons_succ, e14] at hK ⊢
      obtain ⟨k0, k1_⟩ := PB.out _ hw
      go_simp
      exact hK.out _ _ hw (Below.refl _ _) (rfl)
    refine Inv.Steps.go (by decide) (by rfl) (fun σ wx hw hd K hK => ?_) ?_
    · obtain e15 : (σ 15) = .slice ga gn gc := hd 2 (some 15) (by kernel_rfl) (by rfl)
      simp only [List.getElem_toArray, List.getElem_cons_zero, List.getElem_cons_succ, Act.put, List.setIfInBounds_toArray, List.set_cons_zero, List.set_cons_succ, e15] at hK ⊢
      go_simp
      go_at_call 67
      refine (end_any (RG.out _ hw)).mono ?_
      rintro e w1 ⟨⟨t, rfl, a1, a2, a3, a4⟩, hq⟩
      dsimp only
      replace hq := hq.symm
      subst hq
      exact hK.out _ _ hw (Below.refl _ _) (⟨t, rfl, a1, a2, a3, a4⟩)
    refine Inv.Steps.go (by decide) (by rfl) (fun σ wx hw hd K hK => ?_) ?_
    · simp only [List.getElem_toArray, List.getElem_cons_zero, List.getElem_cons_succ, Act.put, List.setIfInBounds_toArray, List.set_cons_zero, List.set_cons_succ] at hK ⊢
      go_simp
      exact hK.out _ _ hw (Below.refl _ _) (rfl)
    refine Inv.Steps.go (by decide) (by rfl) (fun σ wx hw hd K hK => ?_) ?_
    · obtain e17 : (σ 17) = .pointer (some ⟨bb, 1, none⟩) := hd 4 (some 17) (by kernel_rfl) (by rfl)
      simp only [List.getElem_toArray, List.getElem_cons_zero, List.getElem_cons_succ, Act.put, List.setIfInBounds_toArray, List.set_cons_zero, List.set_cons_succ, e17] at hK ⊢
      obtain ⟨k0, k1_⟩ := PB.out _ hw
      go_simp
      exact hK.out _ _ hw (Below.refl _ _) (rfl)
    refine Inv.Steps.go (by decide) (by rfl) (fun σ wx hw hd K hK => ?_) ?_
    · obtain e18 : (σ 18) = .slice la ln lc := hd 5 (some 18) (by kernel_rfl) (by rfl)
      simp only [List.getElem_toArray, List.getElem_cons_zero, List.getElem_cons_succ, Act.put, List.setIfInBounds_toArray, List.set_cons_zero, List.set_cons_succ, e18] at hK ⊢
      go_simp
      go_at_call 67
      refine (end_any (RL.out _ hw)).mono ?_
      rintro e w1 ⟨⟨t, rfl, a1, a2, a3, a4⟩, hq⟩
      dsimp only
      replace hq := hq.symm
      subst hq
      exact hK.out _ _ hw (Below.refl _ _) (⟨t, rfl, a1, a2, a3, a4⟩)
    refine Inv.Steps.go (by decide) (by rfl) (fun σ wx hw hd K hK => ?_) ?_
    · obtain e13 : (σ 13) = .int .i64 q := hd 0 (some 13) (by kernel_rfl) (by rfl)
      obtain ⟨t1, e16, E1⟩ : ∃ t : Int, (σ 16) = .int .i64 t ∧ EndP f t := hd 3 (some 16) (by kernel_rfl) (by rfl)
      obtain ⟨t2, e19, E2⟩ : ∃ t : Int, (σ 19) = .int .i64 t ∧ EndP g t := hd 6 (some 19) (by kernel_rfl) (by rfl)
      simp only [List.getElem_toArray, List.getElem_cons_zero, List.getElem_cons_succ, Act.put, List.setIfInBounds_toArray, List.set_cons_zero, List.set_cons_succ, e13, e16, e19] at hK ⊢
      go_simp
      exact hK.out _ _ hw (Below.refl _ _) (⟨_, rfl, top_max E1 E2 q0 q9⟩)
    refine Inv.Steps.go (by decide) (by rfl) (fun σ wx hw hd K hK => ?_) ?_
    · obtain ⟨t3, e20, E3⟩ : ∃ t : Int, (σ 20) = .int .i64 t ∧ TopP f g q t := hd 7 (some 20) (by kernel_rfl) (by rfl)
      simp only [List.getElem_toArray, List.getElem_cons_zero, List.getElem_cons_succ, Act.put, List.setIfInBounds_toArray, List.set_cons_zero, List.set_cons_succ, e20] at hK ⊢
      go_simp
      exact hK.out _ _ hw (Below.refl _ _) (⟨_, rfl, E3⟩)
    refine Inv.Steps.go (by decide) (by rfl) (fun σ wx hw hd K hK => ?_) ?_
    · obtain ⟨t4, e21, E4⟩ : ∃ t : Int, (σ 21) = .agg #[.int .i64 0, .int .i64 t] ∧ TopP f g q t := hd 8 (some 21) (by kernel_rfl) (by rfl)
      simp only [List.getElem_toArray, List.getElem_cons_zero, List.getElem_cons_succ, Act.put, List.setIfInBounds_toArray, List.set_cons_zero, List.set_cons_succ, e21] at hK ⊢
      go_simp
      exact hK.out _ _ (Buf.then_ hw (new_block _)) (new_block _) (⟨_, _, rfl, E4, heap_alloc_new _ _⟩)
    exact Inv.Steps.nil
  · intro σ wx hw hd
    obtain ⟨h, t, e22, E5, P22⟩ : ∃ (h : Nat) (t : Int), (σ 22) = .slice (some ⟨h, 0, none⟩) 1 1 ∧ TopP f g q t ∧ wx.heap[h]? = some (.cells #[.int .i64 0, .int .i64 t] 49 (0, 0)) := hd 9 (some 22) (by rfl) (by rfl)
    simp only [e22]
    refine Inv.one (i := 10) (by decide) (by kernel_rfl) (by rfl) (fun K hK => ?_)
    simp only [List.getElem_toArray, List.getElem_cons_zero, List.getElem_cons_succ, Act.put, List.setIfInBounds_toArray, List.set_cons_zero, List.set_cons_succ] at hK ⊢
    go_simp
    refine hK.out _ _ ?_
    clear hK K
    refine Inv.done (by kernel_rfl) (NoPanic.normal ?_)
    have PT := Lib.hid P22
    have BT := Lib.hid hw
    obtain ⟨_, _, t9, _⟩ := id E5
    clear P22 hw hd e22
    obtain ⟨wT, hwT⟩ : ∃ wT, wT = wx := ⟨_, rfl⟩
    rw [← hwT] at PT BT ⊢
    replace hwT := Lib.hid hwT
    go_upto_region 6 with fail
    have hw0 : Below wT.heap.size wT wT.drew := (Below.refl _ _).drew
    refine wp_region_noPanic ?_
    refine wp_region_any (by kernel_rfl) ?_
    refine Inv.wpAny_inv (fun k => k == 7 || k == 8) [23, 24, 25, 26, 27, 28, 29] (fun w' => Below wT.heap.size wT w') (fun _ w1 w2 => Below w1.heap.size w1 w2) (fun k => ([fun v_ w_ => v_ = .slice (some ⟨h, 0, none⟩) 1 1, fun v_ w_ => v_ = .pointer (some ⟨bb, 0, none⟩), fun v_ w_ => v_ = .slice ga gn gc, fun v_ w_ => ∃ a n c, v_ = .slice a n c ∧ Sv w_ (.slice a n c) (fun x => decide (0 ≤ x ∧ x < t) && !f x) 32, fun v_ w_ => v_ = .pointer (some ⟨bb, 1, none⟩), fun v_ w_ => v_ = .slice la ln lc, fun v_ w_ => ∃ a n c, v_ = .slice a n c ∧ Sv w_ (.slice a n c) (fun x => (decide (0 ≤ x ∧ x < t) && !f x) && !g x) 32, fun v_ w_ => True, fun v_ w_ => True] : List (Value → World → Prop)).getD k (fun _ _ => True)) _ (fun σ => by simp only [Inv.putAll, List.foldl_cons, List.foldl_nil, Act.put, List.setIfInBounds_toArray, List.set_cons_zero, List.set_cons_succ]; rfl) (by kernel_rfl) (by kernel_rfl) ?_ hw0 ?_ ?_ 2 #[true, true, true, true, true, true, true, false, false] (by kernel_rfl) (by kernel_rfl) ?_
    · intro j k v w1 w2 hjk hv hr
      rcases k with _ | k
      · exact hv
      rcases k with _ | k
      · exact hv
      rcases k with _ | k
      · exact hv
      rcases k with _ | k
      · exact by obtain ⟨a, n, c, e, h⟩ := hv; exact ⟨a, n, c, e, h.keep hr⟩
      rcases k with _ | k
      · exact hv
      rcases k with _ | k
      · exact hv
      rcases k with _ | k
      · exact by obtain ⟨a, n, c, e, h⟩ := hv; exact ⟨a, n, c, e, h.keep hr⟩
      rcases k with _ | k
      · exact hv
      rcases k with _ | k
      · exact hv
      · exact hv
    · intro k t hl hd
      rcases k with _ | k
      · exact absurd hl (by decide +kernel)
      rcases k with _ | k
      · exact absurd hl (by decide +kernel)
      rcases k with _ | k
      · exact absurd hl (by decide +kernel)
      rcases k with _ | k
      · exact absurd hl (by decide +kernel)
      rcases k with _ | k
      · exact absurd hl (by decide +kernel)
      rcases k with _ | k
      · exact absurd hl (by decide +kernel)
      rcases k with _ | k
      · exact absurd hl (by decide +kernel)
      rcases k with _ | k
      · exact absurd hl (by decide +kernel)
      rcases k with _ | k
      · exact absurd hl (by decide +kernel)
      · simp at hd
    · show Inv.Steps _ _ _ _ _ _ _ _ [0, 1, 2, 3, 4, 5, 6]
      refine Inv.Steps.go (by decide) (by rfl) (fun σ wx hw hd K hK => ?_) ?_
      · simp only [List.getElem_toArray, List.getElem_cons_zero, List.getElem_cons_succ, Act.put, List.setIfInBounds_toArray, List.set_cons_zero, List.set_cons_succ] at hK ⊢
        go_simp
        exact hK.out _ _ hw (Below.refl _ _) (rfl)
      refine Inv.Steps.go (by decide) (by rfl) (fun σ wx hw hd K hK => ?_) ?_
      · simp only [List.getElem_toArray, List.getElem_cons_zero, List.getElem_cons_succ, Act.put, List.setIfInBounds_toArray, List.set_cons_zero, List.set_cons_succ] at hK ⊢
        go_simp
        exact hK.out _ _ hw (Below.refl _ _) (rfl)
      refine Inv.Steps.go (by decide) (by rfl) (fun σ wx hw hd K hK => ?_) ?_
      · obtain e24 : (σ 24) = .pointer (some ⟨bb, 0, none⟩) := hd 1 (some 24) (by kernel_rfl) (by rfl)
        simp only [List.getElem_toArray, List.getElem_cons_zero, List.getElem_cons_succ, Act.put, List.setIfInBounds_toArray, List.set_cons_zero, List.set_cons_succ, e24] at hK ⊢
        obtain ⟨k0, k1_⟩ := PB.out _ (Buf.then_ BT.out hw)
        go_simp
        exact hK.out _ _ hw (Below.refl _ _) (rfl)
      refine Inv.Steps.go (by decide) (by rfl) (fun σ wx hw hd K hK => ?_) ?_
      · obtain e23 : (σ 23) = .slice (some ⟨h, 0, none⟩) 1 1 := hd 0 (some 23) (by kernel_rfl) (by rfl)
        obtain e25 : (σ 25) = .slice ga gn gc := hd 2 (some 25) (by kernel_rfl) (by rfl)
        simp only [List.getElem_toArray, List.getElem_cons_zero, List.getElem_cons_succ, Act.put, List.setIfInBounds_toArray, List.set_cons_zero, List.set_cons_succ, e23, e25] at hK ⊢
        go_simp
        go_at_call 20
        refine (minus_sv (rv_one (hop hw PT.out) (Int.le_refl 0) (by omega)) (RG.out _ (Buf.then_ BT.out hw)).rv (by omega) (by omega)).mono ?_
        rintro e w1 ⟨⟨r, rfl, hS⟩, hb⟩
        dsimp only
        replace hS := Sv.short hS
        obtain ⟨ra, rn, rc, rfl, _⟩ := Sv.form hS
        exact hK.out _ _ (Buf.then_ hw hb) hb (⟨_, _, _, rfl, hS⟩)
      refine Inv.Steps.go (by decide) (by rfl) (fun σ wx hw hd K hK => ?_) ?_
      · simp only [List.getElem_toArray, List.getElem_cons_zero, List.getElem_cons_succ, Act.put, List.setIfInBounds_toArray, List.set_cons_zero, List.set_cons_succ] at hK ⊢
        go_simp
        exact hK.out _ _ hw (Below.refl _ _) (rfl)
      refine Inv.Steps.go (by decide) (by rfl) (fun σ wx hw hd K hK => ?_) ?_
      · obtain e27 : (σ 27) = .pointer (some ⟨bb, 1, none⟩) := hd 4 (some 27) (by kernel_rfl) (by rfl)
        simp only [List.getElem_toArray, List.getElem_cons_zero, List.getElem_cons_succ, Act.put, List.setIfInBounds_toArray, List.set_cons_zero, List.set_cons_succ, e27] at hK ⊢
        obtain ⟨k0, k1_⟩ := PB.out _ (Buf.then_ BT.out hw)
        go_simp
        exact hK.out _ _ hw (Below.refl _ _) (rfl)
      refine Inv.Steps.go (by decide) (by rfl) (fun σ wx hw hd K hK => ?_) ?_
      · obtain ⟨ua, un, uc, e26, S26⟩ : ∃ a n c, (σ 26) = .slice a n c ∧ Sv wx (.slice a n c) (fun x => decide (0 ≤ x ∧ x < t) && !f x) 32 := hd 3 (some 26) (by kernel_rfl) (by rfl)
        obtain e28 : (σ 28) = .slice la ln lc := hd 5 (some 28) (by kernel_rfl) (by rfl)
        simp only [List.getElem_toArray, List.getElem_cons_zero, List.getElem_cons_succ, Act.put, List.setIfInBounds_toArray, List.set_cons_zero, List.set_cons_succ, e26, e28] at hK ⊢
        go_simp
        go_at_call 20
        refine (minus_sv S26.rv (RL.out _ (Buf.then_ BT.out hw)).rv (by omega) (by omega)).mono ?_
        rintro e w1 ⟨⟨r, rfl, hS⟩, hb⟩
        dsimp only
        replace hS := Sv.short hS
        obtain ⟨ra, rn, rc, rfl, _⟩ := Sv.form hS
        exact hK.out _ _ (Buf.then_ hw hb) hb (⟨_, _, _, rfl, hS⟩)
      exact Inv.Steps.nil
    · intro σ wx hw hd
      obtain ⟨va, vn, vc, e29, S29⟩ : ∃ a n c, (σ 29) = .slice a n c ∧ Sv wx (.slice a n c) (fun x => (decide (0 ≤ x ∧ x < t) && !f x) && !g x) 32 := hd 6 (some 29) (by rfl) (by rfl)
      simp only [e29]
      refine Inv.one (i := 7) (by decide) (by kernel_rfl) (by rfl) (fun K hK => ?_)
      simp only [List.getElem_toArray, List.getElem_cons_zero, List.getElem_cons_succ, Act.put, List.setIfInBounds_toArray, List.set_cons_zero, List.set_cons_succ] at hK ⊢
      go_simp
      refine hK.out _ _ ?_
      clear hK K
      refine Inv.take (i := 8) (v := .int .i64 0) (by decide) rfl (by kernel_rfl) (by kernel_rfl) (by kernel_rfl) (fun _ _ _ h => h) (by rfl) (fun w' => ?_) ?_
      · simp only [List.getElem_toArray, List.getElem_cons_zero, List.getElem_cons_succ]
        go_simp
      try simp only [Act.put, List.setIfInBounds_toArray, List.set_cons_zero, List.set_cons_succ]
      refine Inv.done (by kernel_rfl) (NoPanic.normal ?_)
      go_wp2_with fail
      go_ret2
      exact ⟨⟨_, t, rfl, E5, S29⟩, Buf.then_ BS.out (Buf.then_ BT.out hw)⟩
/-- The least number that is in neither set. -/
def SetP (f g : Int → Bool) (s : Int) : Prop := 0 ≤ s ∧ s ≤ 64 ∧ (∀ x, 0 ≤ x → x < s → (f x || g x) = true) ∧ (f s || g s) = false
set_option maxHeartbeats 4000000 in
theorem settled_any {w : World} {vg vl : Value} {f g : Int → Bool} (h : Rc w vg vl f g) :
    Calls Try.prog 52 #[.agg #[vg, vl]] w fun e w' => (∃ s, e = .returned (.int .i64 s) ∧ SetP f g s) ∧ Below w.heap.size w w' := by
  obtain ⟨ga, gn, gc, rfl, _⟩ := Sv.form h.got
  obtain ⟨la, ln, lc, rfl, _⟩ := Sv.form h.lost
  have HR := Lib.hid h
  clear h
  go_enter Try.func52, Try.ntmps52
  obtain ⟨bb, hbb⟩ : ∃ bb, bb = w.heap.size := ⟨_, rfl⟩
  obtain ⟨wb, hwb⟩ : ∃ wb, wb = w.alloc (.cells #[.slice ga gn gc, .slice la ln lc] 46) := ⟨_, rfl⟩
  have B0 := Lib.hid (show Below w.heap.size w wb by rw [hwb]; exact new_block _)
  have PX : wb.heap[bb]? = some (.cells #[.slice ga gn gc, .slice la ln lc] 46 (0, 0)) := by rw [hwb, hbb]; exact heap_alloc_new w _
  obtain ⟨k0, k1⟩ := c2 PX
  have V := Lib.hid (valid_any (HR.out.keep B0.out))
  have PX' := Lib.hid PX
  clear PX
  go_wp2_with fail
  rw [← hwb, ← hbb]
  refine V.out.mono ?_
  rintro e w1 ⟨rfl, hb⟩
  clear k0 k1 V
  replace PX' := Lib.hid (hop hb PX'.out)
  replace B0 := Lib.hid (Buf.then_ B0.out hb)
  clear hb
  replace hwb := Lib.hid hwb
  replace hbb := Lib.hid hbb
  obtain ⟨k0, k1⟩ := c2 PX'.out
  have U := Lib.hid (union_sv (HR.out.keep B0.out).got.rv (HR.out.keep B0.out).lost.rv (by omega) (by omega))
  go_wp2_with fail
  refine U.out.mono ?_
  rintro e w2 ⟨⟨r, rfl, hS⟩, hb⟩
  clear k0 k1 U
  replace B0 := Lib.hid (Buf.then_ B0.out hb)
  clear hb
  replace hS := Sv.short hS
  rcases Sv.parts hS with ⟨⟨ad, c, rfl⟩, hf⟩ | ⟨gb, c, n, f0, t0, f1, t1, rfl, hc, hg, hn, c0, c1, d0, d1, b1, b2, b3, b4, b5, b6, e1, e2, e3, e4, e5⟩
  · have HF := Lib.hid hf
    clear hf hS
    go_wp2_with fail
    go_ret
    exact ⟨⟨0, rfl, by omega, by omega, fun x h1 h2 => by omega, HF.out 0⟩, B0.out⟩
  · clear d0 d1 hS
    have E3 := Lib.hid e3
    have E4 := Lib.hid e4
    have E5 := Lib.hid e5
    clear e1 e2 e3 e4 e5
    have eq0 : ((n : Int) + 1 == 0) = false := by simp; omega
    have hc0 : 0 < c := by omega
    have hn0 : 0 < n + 1 := by omega
    by_cases hf0 : f0 = 0
    · subst hf0
      go_wp2_with fail
      go_ret
      exact ⟨⟨t0, rfl, by omega, by omega, fun x h1 h2 => E4.out x h1 h2, E5.out⟩, B0.out⟩
    · have hp : 0 < f0 := by omega
      go_wp2_with fail
      go_ret
      exact ⟨⟨0, rfl, by omega, by omega, fun x h1 h2 => by omega, E3.out 0 hp⟩, B0.out⟩
end Rcv
end Go.Proofs.Ytfmhfhggogjbkaa
