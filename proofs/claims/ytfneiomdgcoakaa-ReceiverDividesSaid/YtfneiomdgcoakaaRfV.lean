/- receiver.High; what ReceiverDivides asks. -/
import Derived.Test.YtfneiomdgcoakaaRfR
set_option linter.unusedVariables false
set_option linter.unusedSimpArgs false
namespace Go.Proofs.Ytfneiomdgcoakaa
open Go.RowKit Dice Wi
namespace Rcv
open Spn
def HighP (f g : Int → Bool) (t : Int) : Prop := 0 ≤ t ∧ t ≤ 64 ∧ (∀ x, f x = true → x < t) ∧ (∀ x, g x = true → x < t) ∧ (t = 0 ∨ f (t - 1) = true ∨ g (t - 1) = true)
theorem high_max {f g : Int → Bool} {a b : Int} (h1 : EndP f a) (h2 : EndP g b) : HighP f g (max a b) := by
  obtain ⟨a1, a2, a3, a4⟩ := h1
  obtain ⟨b1, b2, b3, b4⟩ := h2
  refine ⟨by omega, by omega, fun x hx => by have := a3 x hx; omega, fun x hx => by have := b3 x hx; omega, ?_⟩
  rcases (show max a b = a ∨ max a b = b by omega) with e | e
  · rw [e]; rcases a4 with h | h
    · exact .inl h
    · exact .inr (.inl h)
  · rw [e]; rcases b4 with h | h
    · exact .inl h
    · exact .inr (.inr h)
theorem high_top {f g : Int → Bool} {q t h : Int} (hT : TopP f g q t) (hH : HighP f g h) (q0 : 0 ≤ q) (q9 : q < 60) : max q h = t := by
  refine top_unique (f := f) (g := g) (q := q) ?_ hT
  obtain ⟨b1, b2, b3, b4, b5⟩ := hH
  refine ⟨by omega, by omega, by omega, fun x hx => by have := b3 x hx; omega, fun x hx => by have := b4 x hx; omega, ?_⟩
  rcases (show max q h = q ∨ max q h = h by omega) with e | e
  · exact .inl e
  · rw [e]; exact .inr b5
/-- What is missing below t. -/
def misF (f g : Int → Bool) (t : Int) : Int → Bool := fun x => (decide (0 ≤ x ∧ x < t) && !f x) && !g x
/-- The first missing number among those below k, else the end. -/
structure Fst (f g : Int → Bool) (t k r : Int) : Prop where
  hit : r = t ∨ misF f g t r = true
  le : r ≤ t
  all : ∀ x, 0 ≤ x → x < k → misF f g t x = true → r ≤ x
theorem Fst.start (f g : Int → Bool) (t : Int) : Fst f g t 0 t := ⟨.inl rfl, Int.le_refl _, fun x h1 h2 => by omega⟩
theorem Fst.yes {f g : Int → Bool} {t k r : Int} (h : Fst f g t k r) (hm : misF f g t k = true) : Fst f g t (k + 1) (min r k) := by
  have h1 := h.le
  refine ⟨?_, by omega, fun x x0 x1 hx => ?_⟩
  · rcases (show min r k = r ∨ min r k = k by omega) with e | e
    · rw [e]; exact h.hit
    · rw [e]; exact .inr hm
  · rcases (show x < k ∨ x = k by omega) with c | rfl
    · have := h.all x x0 c hx; omega
    · omega
theorem Fst.no {f g : Int → Bool} {t k r : Int} (h : Fst f g t k r) (hm : misF f g t k = false) : Fst f g t (k + 1) r :=
  ⟨h.hit, h.le, fun x x0 x1 hx => by
    rcases (show x < k ∨ x = k by omega) with c | rfl
    · exact h.all x x0 c hx
    · rw [hm] at hx; cases hx⟩
theorem Fst.settled {f g : Int → Bool} {t k r s h q : Int} (hF : Fst f g t k r) (hk : t ≤ k) (hT : TopP f g q t) (hS : SetP f g s) (hH : HighP f g h) (ht : max q h = t) : s = min r h := by
  obtain ⟨s0, s9, s1, s2⟩ := hS
  obtain ⟨h0, h9, h1, h2, _⟩ := hH
  obtain ⟨_, t0, _⟩ := hT
  have sh : s ≤ h := by
    by_cases c : s ≤ h
    · exact c
    · have := s1 h h0 (by omega)
      rcases Bool.or_eq_true_iff.1 this with e | e
      · have := h1 h e; omega
      · have := h2 h e; omega
  have sr : s ≤ r := by
    rcases hF.hit with e | e
    · omega
    · simp only [misF, Bool.and_eq_true, decide_eq_true_eq, Bool.not_eq_true'] at e
      obtain ⟨⟨⟨r0, _⟩, e1⟩, e2⟩ := e
      by_cases c : s ≤ r
      · exact c
      · have := s1 r r0 (by omega)
        rw [e1, e2] at this; cases this
  by_cases c : s = h
  · omega
  · have hm : misF f g t s = true := by
      have e := Bool.or_eq_false_iff.1 s2
      simp only [misF, e.1, e.2, Bool.not_false, Bool.and_true]
      exact decide_eq_true (by omega)
    have := hF.all s s0 (by omega) hm
    omega
/-- How many of the three sets have k. -/
def cn3 (a b c : Bool) : Int := (if a then 1 else 0) + (if b then 1 else 0) + (if c then 1 else 0)
theorem cn3_in {f g : Int → Bool} {q t k : Int} (hT : TopP f g q t) (ap : ∀ x, (f x && g x) = false) (k0 : 0 ≤ k) : (k < t → cn3 (f k) (g k) (misF f g t k) = 1) ∧ (t ≤ k → cn3 (f k) (g k) (misF f g t k) = 0) := by
  obtain ⟨_, _, _, h1, h2, _⟩ := hT
  have := ap k
  have a1 := h1 k
  have a2 := h2 k
  constructor
  · intro hk
    have : decide (0 ≤ k ∧ k < t) = true := decide_eq_true ⟨k0, hk⟩
    cases hf : f k <;> cases hg : g k <;> simp_all [cn3, misF]
  · intro hk
    have : decide (0 ≤ k ∧ k < t) = false := decide_eq_false (by omega)
    cases hf : f k <;> cases hg : g k
    · simp_all [cn3, misF]
    · have := a2 hg; omega
    · have := a1 hf; omega
    · have := a1 hf; omega
set_option maxHeartbeats 8000000 in
set_option maxRecDepth 100000 in
theorem high_any {w : World} {vg vl : Value} {f g : Int → Bool} (h : Rc w vg vl f g) :
    Calls Try.prog 26 #[.agg #[vg, vl]] w fun e w' => (∃ t : Int, e = .returned (.int .i64 t) ∧ HighP f g t) ∧ Below w.heap.size w w' := by
  obtain ⟨ga, gn, gc, la, ln, lc, rfl, rfl⟩ := Rc.form h
  have HR := Lib.hid h
  clear h
  go_enter Try.func26, Try.ntmps26
  obtain ⟨wb, hwb⟩ : ∃ wb, wb = w.alloc (.cells #[.slice ga gn gc, .slice la ln lc] 30) := ⟨_, rfl⟩
  have B0 := Lib.hid (show Below w.heap.size w wb by rw [hwb]; exact new_block _)
  have PX := Lib.hid (show wb.heap[w.heap.size]? = some (.cells #[.slice ga gn gc, .slice la ln lc] 30 (0, 0)) by rw [hwb]; exact heap_alloc_new w _)
  obtain ⟨k0, k1⟩ := Spn.c2 PX.out
  have V := Lib.hid (valid_any (HR.out.keep B0.out))
  go_upto_region 1 with fail
  rw [← hwb]
  clear hwb
  go_wp2_with fail
  refine V.out.mono ?_
  rintro e w2 ⟨rfl, hb⟩
  replace B0 := Lib.hid (Buf.then_ B0.out hb)
  have PB := Lib.hid fun wx (hb' : Below w2.heap.size w2 wx) => Spn.c2 (hop (Buf.then_ hb hb') PX.out)
  have RG := Lib.hid fun wx (hb' : Below w2.heap.size w2 wx) => (HR.out.keep (Buf.then_ B0.out hb')).got
  have RL := Lib.hid fun wx (hb' : Below w2.heap.size w2 wx) => (HR.out.keep (Buf.then_ B0.out hb')).lost
  clear hb k0 k1 V PX HR
  go_upto_region 3 with fail
  have hw0 : Below w2.heap.size w2 w2.drew := (Below.refl _ _).drew
  refine wp_region_noPanic ?_
  refine wp_region_any (by kernel_rfl) ?_
  refine Inv.wpAny_inv (fun k => false) [6, 7, 8, 9, 10, 11, 12, 2] (fun w' => Below w2.heap.size w2 w') (fun _ w1 w2 => Below w1.heap.size w1 w2) (fun k => ([fun v_ w_ => v_ = .pointer (some ⟨w.heap.size, 0, none⟩), fun v_ w_ => v_ = .slice ga gn gc, fun v_ w_ => ∃ ta : Int, v_ = .int .i64 ta ∧ EndP f ta, fun v_ w_ => v_ = .pointer (some ⟨w.heap.size, 1, none⟩), fun v_ w_ => v_ = .slice la ln lc, fun v_ w_ => ∃ tb : Int, v_ = .int .i64 tb ∧ EndP g tb, fun v_ w_ => ∃ t : Int, v_ = .int .i64 t ∧ HighP f g t, fun v_ w_ => ∃ t : Int, v_ = .int .i64 t ∧ HighP f g t] : List (Value → World → Prop)).getD k (fun _ _ => True)) _ (fun σ => by simp only [Inv.putAll, List.foldl_cons, List.foldl_nil, Act.put, List.setIfInBounds_toArray, List.set_cons_zero, List.set_cons_succ]; rfl) (by kernel_rfl) (by kernel_rfl) ?_ hw0 ?_ ?_ 0 #[true, true, true, true, true, true, true, true] (by kernel_rfl) (by kernel_rfl) ?_
  · intro j k v w1 w2 hjk hv hr
    rcases k with _ | k
    · exact hv
    rcases k with _ | k
    · exact hv
    rcases k with _ | k
    · exact hv
    rcases k with _ | k
    · exact hv
    rcases k with _ | k
    · exact hv
    rcases k with _ | k
    · exact hv
    rcases k with _ | k
    · exact hv
    rcases k with _ | k
    · exact hv
    · exact hv
  · intro k t hl hd
    rcases k with _ | k
    · exact absurd hl (by decide +kernel)
    rcases k with _ | k
    · exact absurd hl (by decide +kernel)
    rcases k with _ | k
    · exact absurd hl (by decide +kernel)
    rcases k with _ | k
    · exact absurd hl (by decide +kernel)
    rcases k with _ | k
    · exact absurd hl (by decide +kernel)
    rcases k with _ | k
    · exact absurd hl (by decide +kernel)
    rcases k with _ | k
    · exact absurd hl (by decide +kernel)
    rcases k with _ | k
    · exact absurd hl (by decide +kernel)
    · simp at hd
  · show Inv.Steps _ _ _ _ _ _ _ _ [0, 1, 2, 3, 4, 5, 6, 7]
    refine Inv.Steps.go (by decide) (by rfl) (fun σ wx hw hd K hK => ?_) ?_
    · simp only [List.getElem_toArray, List.getElem_cons_zero, List.getElem_cons_succ, Act.put, List.setIfInBounds_toArray, List.set_cons_zero, List.set_cons_succ] at hK ⊢
      go_simp
      exact hK.out _ _ hw (Below.refl _ _) (rfl)
    refine Inv.Steps.go (by decide) (by rfl) (fun σ wx hw hd K hK => ?_) ?_
    · obtain e6 : (σ 6) = .pointer (some ⟨w.heap.size, 0, none⟩) := hd 0 (some 6) (by kernel_rfl) (by rfl)
      simp only [List.getElem_toArray, List.getElem_cons_zero, List.getElem_cons_succ, Act.put, List.setIfInBounds_toArray, List.set_cons_zero, List.set_cons_succ, e6] at hK ⊢
      obtain ⟨k0, k1_⟩ := PB.out _ hw
      go_simp
      exact hK.out _ _ hw (Below.refl _ _) (rfl)
    refine Inv.Steps.go (by decide) (by rfl) (fun σ wx hw hd K hK => ?_) ?_
    · obtain e7 : (σ 7) = .slice ga gn gc := hd 1 (some 7) (by kernel_rfl) (by rfl)
      simp only [List.getElem_toArray, List.getElem_cons_zero, List.getElem_cons_succ, Act.put, List.setIfInBounds_toArray, List.set_cons_zero, List.set_cons_succ, e7] at hK ⊢
      go_simp
      go_at_call 43
      refine (end_any (RG.out _ hw)).mono ?_
      rintro e w1 ⟨⟨t, rfl, hE⟩, rfl⟩
      dsimp only
      exact hK.out _ _ hw (Below.refl _ _) (⟨t, rfl, hE⟩)
    refine Inv.Steps.go (by decide) (by rfl) (fun σ wx hw hd K hK => ?_) ?_
    · simp only [List.getElem_toArray, List.getElem_cons_zero, List.getElem_cons_succ, Act.put, List.setIfInBounds_toArray, List.set_cons_zero, List.set_cons_succ] at hK ⊢
      go_simp
      exact hK.out _ _ hw (Below.refl _ _) (rfl)
    refine Inv.Steps.go (by decide) (by rfl) (fun σ wx hw hd K hK => ?_) ?_
    · obtain e9 : (σ 9) = .pointer (some ⟨w.heap.size, 1, none⟩) := hd 3 (some 9) (by kernel_rfl) (by rfl)
      simp only [List.getElem_toArray, List.getElem_cons_zero, List.getElem_cons_succ, Act.put, List.setIfInBounds_toArray, List.set_cons_zero, List.set_cons_succ, e9] at hK ⊢
      obtain ⟨k0, k1_⟩ := PB.out _ hw
      go_simp
      exact hK.out _ _ hw (Below.refl _ _) (rfl)
    refine Inv.Steps.go (by decide) (by rfl) (fun σ wx hw hd K hK => ?_) ?_
    · obtain e10 : (σ 10) = .slice la ln lc := hd 4 (some 10) (by kernel_rfl) (by rfl)
      simp only [List.getElem_toArray, List.getElem_cons_zero, List.getElem_cons_succ, Act.put, List.setIfInBounds_toArray, List.set_cons_zero, List.set_cons_succ, e10] at hK ⊢
      go_simp
      go_at_call 43
      refine (end_any (RL.out _ hw)).mono ?_
      rintro e w1 ⟨⟨t, rfl, hE⟩, rfl⟩
      dsimp only
      exact hK.out _ _ hw (Below.refl _ _) (⟨t, rfl, hE⟩)
    refine Inv.Steps.go (by decide) (by rfl) (fun σ wx hw hd K hK => ?_) ?_
    · obtain ⟨ta, e8, ea⟩ : ∃ ta : Int, (σ 8) = .int .i64 ta ∧ EndP f ta := hd 2 (some 8) (by kernel_rfl) (by rfl)
      obtain ⟨tb, e11, eb⟩ : ∃ tb : Int, (σ 11) = .int .i64 tb ∧ EndP g tb := hd 5 (some 11) (by kernel_rfl) (by rfl)
      simp only [List.getElem_toArray, List.getElem_cons_zero, List.getElem_cons_succ, Act.put, List.setIfInBounds_toArray, List.set_cons_zero, List.set_cons_succ, e8, e11] at hK ⊢
      go_simp
      exact hK.out _ _ hw (Below.refl _ _) (⟨_, rfl, high_max ea eb⟩)
    refine Inv.Steps.go (by decide) (by rfl) (fun σ wx hw hd K hK => ?_) ?_
    · obtain ⟨t, e12, eh⟩ : ∃ t : Int, (σ 12) = .int .i64 t ∧ HighP f g t := hd 6 (some 12) (by kernel_rfl) (by rfl)
      simp only [List.getElem_toArray, List.getElem_cons_zero, List.getElem_cons_succ, Act.put, List.setIfInBounds_toArray, List.set_cons_zero, List.set_cons_succ, e12] at hK ⊢
      go_simp
      exact hK.out _ _ hw (Below.refl _ _) (⟨t, rfl, eh⟩)
    exact Inv.Steps.nil
  · intro σ wx hw hd
    obtain ⟨t, e2, eh⟩ : ∃ t : Int, (σ 2) = .int .i64 t ∧ HighP f g t := hd 7 (some 2) (by rfl) (by rfl)
    refine Inv.done (by kernel_rfl) (NoPanic.normal ?_)
    simp only [e2]
    go_wp2_with fail
    go_ret
    exact ⟨⟨t, rfl, eh⟩, Buf.then_ B0.out hw⟩
end Rcv
end Go.Proofs.Ytfneiomdgcoakaa
