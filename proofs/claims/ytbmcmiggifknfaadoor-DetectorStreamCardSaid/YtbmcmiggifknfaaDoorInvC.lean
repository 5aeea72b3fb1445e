/- The rule of Inv where a late operation (a store) need not wait for three of the others. -/
import Derived.Test.YtbmcmiggifknfaaDoorInvB
namespace Go.Proofs.YtbmcmiggifknfaaDoor
set_option linter.unusedVariables false
namespace Inv
section
variable {P : Program} {ops : Array Oper} {Q : Exit → Act → World → Prop} {md : Region.Mode}
/-- The list when all but the late and perhaps three others have come up. -/
def three (ops : Array Oper) (late : Nat → Bool) (m1 m2 m3 : Nat) (b1 b2 b3 : Bool) : Array Bool := (((early ops late).setIfInBounds m1 b1).setIfInBounds m2 b2).setIfInBounds m3 b3
/-- The rule, where the late operations need not wait for three of the others. -/
theorem wpAny_inv3 {fuel : Nat} {listed : Array Bool} {a : Act} {w : World} (late : Nat → Bool) (m1 m2 m3 : Nat) (ds : List Nat) (W : World → Prop) (R : Nat → World → World → Prop) (V : Nat → Value → World → Prop) (F : (Nat → Value) → Act)
    (hF : ∀ σ, putAll a ds σ = F σ) (hfit : fitB md ops late listed fuel = true) (hok : okB md ops ds (fun k => listed.getD k false || (k == m1 || (k == m2 || k == m3))) late = true) (hm12 : m1 ≠ m2 ∧ m1 ≠ m3 ∧ m2 ≠ m3)
    (stab : ∀ i k v w w', i ≠ k → V k v w → R i w w' → V k v w') (hW : W w) (hV : ∀ k t, listed.getD k false = true → ((ops[k]?).map (·.dst)) = some t → V k (val (fun d => a.tmps.getD d undef) t) w)
    (steps : Steps P md ops Q F W R V ((List.range ops.size).filter fun k => !late k && !listed.getD k false))
    (m : Bool → Bool → Bool → Nat) (E : Bool → Bool → Bool → Array Bool) (hm : ∀ b1 b2 b3, left ops (three ops late m1 m2 m3 b1 b2 b3) = m b1 b2 b3) (hE : ∀ b1 b2 b3, three ops late m1 m2 m3 b1 b2 b3 = E b1 b2 b3) (hl12 : late m1 = false ∧ late m2 = false ∧ late m3 = false)
    (rest : ∀ b1 b2 b3 σ w, W w → (∀ k t, late k = false → (k = m1 → b1 = true) → (k = m2 → b2 = true) → (k = m3 → b3 = true) → ((ops[k]?).map (·.dst)) = some t → V k (val σ t) w) → wpAny P md ops Q (m b1 b2 b3) (E b1 b2 b3) (F σ) w) :
    wpAny P md ops Q fuel listed a w := by
  simp only [fitB, Bool.and_eq_true, decide_eq_true_eq, List.all_eq_true, List.mem_range] at hfit
  obtain ⟨⟨h1, h2⟩, h3⟩ := hfit
  have hin : ∀ k, listed.getD k false = true → k < ops.size := fun k hk => by
    rw [← h1]
    rcases Nat.lt_or_ge k listed.size with h | h
    · exact h
    · simp [Array.getElem?_eq_none h] at hk
  refine held_mid (fun k => listed.getD k false) late (fun k => k == m1 || (k == m2 || k == m3)) a ds F hF W R V (okB_spec hok) stab (fun i o ho hl hp => steps i (List.mem_filter.2 ⟨List.mem_range.2 (Array.getElem?_eq_some_iff.1 ho).1, by rw [hl, hp]; rfl⟩) o ho)
    (fun li σ w g1 g2 g3 g4 g5 => ?_) fuel listed a w h2 ⟨h1, ?_, ?_, fun _ h => h, hW, _, (putAll_self ds a).symm, ?_⟩
  · have he : li = three ops late m1 m2 m3 (li.getD m1 false) (li.getD m2 false) (li.getD m3 false) := by
      apply Array.ext_getElem?
      intro i
      rcases Nat.lt_or_ge i ops.size with hi | hi
      · have q1 : i < li.size := by rw [g1]; exact hi
        have hget : li[i]? = some (li.getD i false) := by rw [getD_of_lt q1, Array.getElem?_eq_getElem q1]
        rw [hget]
        by_cases e3 : m3 = i
        · subst e3
          simp [three, early, hi]
        · unfold three
          rw [Array.getElem?_setIfInBounds_ne e3]
          by_cases e2 : m2 = i
          · subst e2
            simp [early, hi]
          · rw [Array.getElem?_setIfInBounds_ne e2]
            by_cases e1 : m1 = i
            · subst e1
              simp [early, hi]
            · rw [Array.getElem?_setIfInBounds_ne e1]
              have hx : (early ops late)[i]? = some (!late i) := by simp [early, hi]
              rw [hx]
              cases hl : late i with
              | true => rw [g3 i hl]; rfl
              | false => rw [g2 i hi hl (by simp [Ne.symm e1, Ne.symm e2, Ne.symm e3])]; rfl
      · rw [Array.getElem?_eq_none (by rw [g1]; exact hi), Array.getElem?_eq_none (by simp [three, early]; exact hi)]
    have hr := rest (li.getD m1 false) (li.getD m2 false) (li.getD m3 false) σ w g4 (fun k t hl k1 k2 k3 hd => by
      cases ho : ops[k]? with
      | none => rw [ho] at hd; cases hd
      | some o =>
        rw [ho] at hd; cases hd
        refine g5 k o ho hl ?_
        by_cases e1 : k = m1
        · rw [e1]; exact k1 e1
        · by_cases e2 : k = m2
          · rw [e2]; exact k2 e2
          · by_cases e3 : k = m3
            · rw [e3]; exact k3 e3
            · exact g2 k (Array.getElem?_eq_some_iff.1 ho).1 hl (by simp [e1, e2, e3]))
    rw [← hm, ← hE, ← he] at hr
    exact hr
  · intro k ok' hk hl e he hb
    have := h3 k (hin k hl)
    simp only [hl, hk, Bool.not_true, Bool.false_or, Bool.and_eq_true, Option.map_some, Option.getD_some] at this
    obtain ⟨n, hn, rfl⟩ := Array.mem_iff_getElem.1 he
    have h5 := Array.all_eq_true.1 this.2 n hn
    simpa [hb] using h5
  · intro k hk
    cases hq : listed.getD k false with
    | false => rfl
    | true =>
      have := h3 k (hin k hq)
      simp [hq, hk] at this
  · intro k o ho _ hl
    exact hV k o.dst hl (by rw [ho]; rfl)
/-- Two operations may come up. -/
theorem pair {i k : Nat} {fuel : Nat} {listed : Array Bool} {a : Act} {w : World} (hi : i < ops.size) (hk : k < ops.size) (hr : Region.ready md ops listed = [i, k]) (hg : (ops[i]).guard = none) (hg' : (ops[k]).guard = none)
    (h : ∀ K : Act → World → Prop, Shut (∀ a' w', wpAny P md ops Q fuel (listed.setIfInBounds i true) a' w' → K a' w') → (ops[i]).wp P a w K Q)
    (h' : ∀ K : Act → World → Prop, Shut (∀ a' w', wpAny P md ops Q fuel (listed.setIfInBounds k true) a' w' → K a' w') → (ops[k]).wp P a w K Q) : wpAny P md ops Q (fuel + 1) listed a w := by
  refine ⟨fun h0 => (by rw [h0] at hr; cases hr), fun j hj => ?_⟩
  rw [hr] at hj
  unfold wpOp
  rcases List.mem_cons.1 hj with rfl | hj
  · have hw : Region.wanted ops[j] (yielded ops a.tmps) = true := by simp [Region.wanted, hg]
    simp only [Array.getElem?_eq_getElem hi, hw, if_true]
    exact .inl (h _ fun a' w' h1 => h1)
  · obtain rfl : j = k := by simpa using hj
    have hw : Region.wanted ops[j] (yielded ops a.tmps) = true := by simp [Region.wanted, hg']
    simp only [Array.getElem?_eq_getElem hk, hw, if_true]
    exact .inl (h' _ fun a' w' h1 => h1)
end
end Inv
end Go.Proofs.YtbmcmiggifknfaaDoor
