/- The rule of Inv where a late operation (a store) need not wait for two of the others. -/
import Derived.Test.YtfmhfhggogjbkaaInv
namespace Go.Proofs.Ytfmhfhggogjbkaa
set_option linter.unusedVariables false
namespace Inv
section
variable {P : Program} {ops : Array Oper} {Q : Exit → Act → World → Prop} {md : Region.Mode}
theorem held_mid (pre late mid : Nat → Bool) (a0 : Act) (ds : List Nat) (F : (Nat → Value) → Act) (hF : ∀ σ, putAll a0 ds σ = F σ) (W : World → Prop) (R : Nat → World → World → Prop) (V : Nat → Value → World → Prop) (ok : Ok md ops ds (fun k => pre k || mid k) late)
    (stab : ∀ i k v w w', i ≠ k → V k v w → R i w w' → V k v w') (steps : ∀ i o, ops[i]? = some o → late i = false → pre i = false → Step P md ops Q F W R V i o)
    (rest : ∀ (listed : Array Bool) σ w, listed.size = ops.size → (∀ k, k < ops.size → late k = false → mid k = false → listed.getD k false = true) → (∀ k, late k = true → listed.getD k false = false) → W w → (∀ k o, ops[k]? = some o → late k = false → listed.getD k false = true → V k (val σ o.dst) w) → wpAny P md ops Q (left ops listed) listed (F σ) w) :
    ∀ (f : Nat) (listed : Array Bool) (a : Act) (w : World), left ops listed ≤ f → Held md ops pre late a0 ds W V listed a w → wpAny P md ops Q f listed a w := by
  intro f
  induction f with
  | zero =>
    intro listed a w hf h
    have hall : ∀ k, k < ops.size → listed.getD k false = true := fun k hk => by
      cases hb : listed.getD k false with
      | true => rfl
      | false =>
        have : 0 < left ops listed := List.countP_pos_iff.2 ⟨k, List.mem_range.2 hk, by simp only [hb]; rfl⟩
        omega
    obtain ⟨σ, rfl, hv⟩ := h.vals
    have := wpAny_le hf (rest listed σ w h.size (fun k hk _ _ => hall k hk) h.fresh h.world hv)
    rw [← hF] at this
    exact this
  | succ f ih =>
    intro listed a w hf h
    by_cases hex : ∃ k, k < ops.size ∧ late k = false ∧ mid k = false ∧ listed.getD k false = false
    · obtain ⟨k0, hk0, hl0, hm0, hu0⟩ := hex
      have hp0 : pre k0 = false := by
        cases hq : pre k0 with
        | false => rfl
        | true => rw [h.begun k0 hq] at hu0; cases hu0
      -- the least that has not come up may come up
      have hready : ∀ n k, k < n → k < ops.size → listed.getD k false = false → Region.ready md ops listed ≠ [] := by
        intro n
        induction n with
        | zero => intro k hk; omega
        | succ n ihn =>
          intro k hk hks hu
          by_cases hless : ∃ j, j < k ∧ listed.getD j false = false
          · obtain ⟨j, hj, huj⟩ := hless
            exact ihn j (by omega) (by omega) huj
          · have hm : k ∈ Region.ready md ops listed := by
              refine mem_ready.2 ⟨?_, ops[k], Array.getElem?_eq_getElem hks, fun e he hb => ?_⟩
              · have : k < listed.size := by rw [h.size]; exact hks
                rw [getD_of_lt this] at hu ⊢; exact hu
              · have hlt := ok.less k _ (Array.getElem?_eq_getElem hks) e he hb
                cases hq : listed.getD e.on false with
                | true => rfl
                | false => exact absurd ⟨e.on, hlt, hq⟩ hless
            intro e; rw [e] at hm; cases hm
      refine ⟨fun e => absurd e (hready (k0 + 1) k0 (by omega) hk0 hu0), fun i hi => ?_⟩
      obtain ⟨hun, o, ho, hall⟩ := mem_ready.1 hi
      have hi' : i < ops.size := (Array.getElem?_eq_some_iff.1 ho).1
      have hil : i < listed.size := by rw [h.size]; exact hi'
      have hun' : listed.getD i false = false := by rw [getD_of_lt hil] at hun ⊢; exact hun
      have hpi : pre i = false := by
        cases hq : pre i with
        | false => rfl
        | true => rw [h.begun i hq] at hun'; cases hun'
      have hli : late i = false := by
        cases hq : late i with
        | false => rfl
        | true =>
          have h1 := ok.wait k0 hk0 hl0 (by simp [hp0, hm0]) i hi' hq
          rw [dep_listed h.closed k0 _ i o ho hall h1] at hu0
          cases hu0
      obtain ⟨σ, rfl, hv⟩ := h.vals
      have hst := steps i o ho hli hpi σ w h.world (fun k t hk hd => by
        obtain ⟨n, hn, h2⟩ := Array.any_eq_true.1 hk
        simp only [Bool.and_eq_true, beq_iff_eq] at h2
        obtain ⟨hb, rfl⟩ := h2
        have hl := hall _ (Array.getElem_mem hn) hb
        cases hok : ops[(o.after[n]).on]? with
        | none => rw [hok] at hd; cases hd
        | some ok' =>
          rw [hok] at hd
          cases hd
          have hle : late (o.after[n]).on = false := by
            cases hq : late (o.after[n]).on with
            | false => rfl
            | true => rw [h.fresh _ hq] at hl; cases hl
          exact hv _ ok' hok hle hl)
      rw [← hF] at hst
      refine wpOp_of_if ho (hst _ fun v w' hW hR hV => ih _ _ _ (by have := left_set (ops := ops) hi' h.size hun'; omega) ⟨?_, ?_, ?_, ?_, hW, ?_⟩)
      · simp [h.size]
      · intro k ok' hk hl e he hb
        by_cases hki : i = k
        · subst hki
          rw [ho] at hk; cases hk
          exact getD_set_true (hall e he hb)
        · rw [getD_set_ne false hki] at hl
          exact getD_set_true (h.closed k ok' hk hl e he hb)
      · intro k hk
        have : i ≠ k := fun e => by rw [← e, hli] at hk; cases hk
        rw [getD_set_ne false this]
        exact h.fresh k hk
      · intro k hk
        exact getD_set_true (h.begun k hk)
      · cases hd : o.dst with
        | none =>
          refine ⟨σ, rfl, fun k ok' hk hlk hl => ?_⟩
          by_cases hki : i = k
          · subst hki
            rw [ho] at hk; cases hk
            rw [hd] at hV ⊢; exact hV
          · rw [getD_set_ne false hki] at hl
            exact stab i _ _ _ _ hki (hv k ok' hk hlk hl) hR
        | some d0 =>
          obtain ⟨hmem, hne⟩ := ok.dst i o d0 ho hli hd
          refine ⟨upd σ d0 v, putAll_put ds σ d0 v ok.nodup hmem a0, fun k ok' hk hlk hl => ?_⟩
          by_cases hki : i = k
          · subst hki
            rw [ho] at hk; cases hk
            rw [hd] at hV ⊢
            show V i (upd σ d0 v d0) w'
            rw [upd_same]; exact hV
          · rw [getD_set_ne false hki] at hl
            have hvk := stab i _ _ _ _ hki (hv k ok' hk hlk hl) hR
            cases hdk : ok'.dst with
            | none => rw [hdk] at hvk; exact hvk
            | some d =>
              rw [hdk] at hvk
              have hdd : d ≠ d0 := fun e => hne k ok' hk hlk (Ne.symm hki) (by rw [hdk, e])
              show V k (upd σ d0 v d) w'
              rw [upd_ne _ _ _ _ hdd]
              exact hvk
    · obtain ⟨σ, rfl, hv⟩ := h.vals
      have := wpAny_le hf (rest listed σ w h.size (fun k hk hl hm => by
        cases hb : listed.getD k false with
        | true => rfl
        | false => exact absurd ⟨k, hk, hl, hm, hb⟩ hex) h.fresh h.world hv)
      rw [← hF] at this
      exact this
/-- The list when all but the late and perhaps two others have come up. -/
def two (ops : Array Oper) (late : Nat → Bool) (m1 m2 : Nat) (b1 b2 : Bool) : Array Bool := ((early ops late).setIfInBounds m1 b1).setIfInBounds m2 b2
/-- The rule, where the late operations need not wait for two of the others. -/
theorem wpAny_inv2 {fuel : Nat} {listed : Array Bool} {a : Act} {w : World} (late : Nat → Bool) (m1 m2 : Nat) (ds : List Nat) (W : World → Prop) (R : Nat → World → World → Prop) (V : Nat → Value → World → Prop) (F : (Nat → Value) → Act)
    (hF : ∀ σ, putAll a ds σ = F σ) (hfit : fitB md ops late listed fuel = true) (hok : okB md ops ds (fun k => listed.getD k false || (k == m1 || k == m2)) late = true) (hm12 : m1 ≠ m2)
    (stab : ∀ i k v w w', i ≠ k → V k v w → R i w w' → V k v w') (hW : W w) (hV : ∀ k t, listed.getD k false = true → ((ops[k]?).map (·.dst)) = some t → V k (val (fun d => a.tmps.getD d undef) t) w)
    (steps : Steps P md ops Q F W R V ((List.range ops.size).filter fun k => !late k && !listed.getD k false))
    (m : Bool → Bool → Nat) (E : Bool → Bool → Array Bool) (hm : ∀ b1 b2, left ops (two ops late m1 m2 b1 b2) = m b1 b2) (hE : ∀ b1 b2, two ops late m1 m2 b1 b2 = E b1 b2) (hl12 : late m1 = false ∧ late m2 = false)
    (rest : ∀ b1 b2 σ w, W w → (∀ k t, late k = false → (k = m1 → b1 = true) → (k = m2 → b2 = true) → ((ops[k]?).map (·.dst)) = some t → V k (val σ t) w) → wpAny P md ops Q (m b1 b2) (E b1 b2) (F σ) w) :
    wpAny P md ops Q fuel listed a w := by
  simp only [fitB, Bool.and_eq_true, decide_eq_true_eq, List.all_eq_true, List.mem_range] at hfit
  obtain ⟨⟨h1, h2⟩, h3⟩ := hfit
  have hin : ∀ k, listed.getD k false = true → k < ops.size := fun k hk => by
    rw [← h1]
    rcases Nat.lt_or_ge k listed.size with h | h
    · exact h
    · simp [Array.getElem?_eq_none h] at hk
  refine held_mid (fun k => listed.getD k false) late (fun k => k == m1 || k == m2) a ds F hF W R V (okB_spec hok) stab (fun i o ho hl hp => steps i (List.mem_filter.2 ⟨List.mem_range.2 (Array.getElem?_eq_some_iff.1 ho).1, by rw [hl, hp]; rfl⟩) o ho)
    (fun li σ w g1 g2 g3 g4 g5 => ?_) fuel listed a w h2 ⟨h1, ?_, ?_, fun _ h => h, hW, _, (putAll_self ds a).symm, ?_⟩
  · have he : li = two ops late m1 m2 (li.getD m1 false) (li.getD m2 false) := by
      apply Array.ext_getElem?
      intro i
      rcases Nat.lt_or_ge i ops.size with hi | hi
      · have q1 : i < li.size := by rw [g1]; exact hi
        have hget : li[i]? = some (li.getD i false) := by rw [getD_of_lt q1, Array.getElem?_eq_getElem q1]
        rw [hget]
        by_cases e2 : m2 = i
        · subst e2
          simp [two, early, hi]
        · unfold two
          rw [Array.getElem?_setIfInBounds_ne e2]
          by_cases e1 : m1 = i
          · subst e1
            simp [early, hi]
          · rw [Array.getElem?_setIfInBounds_ne e1]
            have hx : (early ops late)[i]? = some (!late i) := by simp [early, hi]
            rw [hx]
            cases hl : late i with
            | true => rw [g3 i hl]; rfl
            | false => rw [g2 i hi hl (by simp [Ne.symm e1, Ne.symm e2])]; rfl
      · rw [Array.getElem?_eq_none (by rw [g1]; exact hi), Array.getElem?_eq_none (by simp [two, early]; exact hi)]
    have hr := rest (li.getD m1 false) (li.getD m2 false) σ w g4 (fun k t hl k1 k2 hd => by
      cases ho : ops[k]? with
      | none => rw [ho] at hd; cases hd
      | some o =>
        rw [ho] at hd; cases hd
        refine g5 k o ho hl ?_
        by_cases e1 : k = m1
        · rw [e1]; exact k1 e1
        · by_cases e2 : k = m2
          · rw [e2]; exact k2 e2
          · exact g2 k (Array.getElem?_eq_some_iff.1 ho).1 hl (by simp [e1, e2]))
    rw [← hm, ← hE, ← he] at hr
    exact hr
  · intro k ok' hk hl e he hb
    have := h3 k (hin k hl)
    simp only [hl, hk, Bool.not_true, Bool.false_or, Bool.and_eq_true, Option.map_some, Option.getD_some] at this
    obtain ⟨n, hn, rfl⟩ := Array.mem_iff_getElem.1 he
    have h5 := Array.all_eq_true.1 this.2 n hn
    simpa [hb] using h5
  · intro k hk
    cases hq : listed.getD k false with
    | false => rfl
    | true =>
      have := h3 k (hin k hq)
      simp [hq, hk] at this
  · intro k o ho _ hl
    exact hV k o.dst hl (by rw [ho]; rfl)
end
end Inv
end Go.Proofs.Ytfmhfhggogjbkaa
