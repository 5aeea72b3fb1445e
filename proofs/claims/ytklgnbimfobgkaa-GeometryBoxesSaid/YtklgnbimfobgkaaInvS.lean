/- The rule of Inv where what is known of an operation may speak of the slots that it waits for. -/
import Derived.Test.YtklgnbimfobgkaaInv
namespace Go.Proofs.Ytklgnbimfobgkaa
set_option linter.unusedVariables false
namespace InvS
open Go.Proofs.Ytklgnbimfobgkaa.Inv
section
variable {P : Program} {ops : Array Oper} {Q : Exit → Act → World → Prop} {md : Region.Mode}
def updo (σ : Nat → Value) : Option Tmp → Value → Nat → Value
  | some d, v => upd σ d v
  | none, _ => σ
theorem updo_ne {σ : Nat → Value} {o : Option Tmp} {v : Value} {s : Nat} (h : o ≠ some s) : updo σ o v s = σ s := by
  cases o with
  | none => rfl
  | some d => exact upd_ne σ d s v (fun e => h (by rw [e]))
theorem updo_same (σ : Nat → Value) (d : Nat) (v : Value) : updo σ (some d) v d = v := upd_same σ d v
/-- The state of a region under way. -/
structure Held (md : Region.Mode) (ops : Array Oper) (pre late : Nat → Bool) (a0 : Act) (ds : List Nat) (W : World → Prop) (V : Nat → (Nat → Value) → World → Prop) (listed : Array Bool) (a : Act) (w : World) : Prop where
  size : listed.size = ops.size
  closed : Closed md ops listed
  fresh : ∀ k, late k = true → listed.getD k false = false
  begun : ∀ k, pre k = true → listed.getD k false = true
  world : W w
  vals : ∃ σ, a = putAll a0 ds σ ∧ ∀ k o, ops[k]? = some o → late k = false → listed.getD k false = true → V k σ w
/-- What is to be shown of one operation. -/
def Step (P : Program) (md : Region.Mode) (ops : Array Oper) (Q : Exit → Act → World → Prop) (F : (Nat → Value) → Act) (W : World → Prop) (R : Nat → World → World → Prop) (V : Nat → (Nat → Value) → World → Prop) (i : Nat) (o : Oper) : Prop :=
  ∀ σ w, W w → (∀ k t, (o.after.any fun e => Region.binds md e && e.on == k) = true → ((ops[k]?).map (·.dst)) = some t → V k σ w) →
    ∀ K : Act → World → Prop, Shut (∀ v w', W w' → R i w w' → V i (updo σ o.dst v) w' → K ((F σ).put o.dst v) w') →
      if Region.wanted o (yielded ops (F σ).tmps) = true then o.wp P (F σ) w K Q else K ((F σ).put o.dst undef) w
def Steps (P : Program) (md : Region.Mode) (ops : Array Oper) (Q : Exit → Act → World → Prop) (F : (Nat → Value) → Act) (W : World → Prop) (R : Nat → World → World → Prop) (V : Nat → (Nat → Value) → World → Prop) (l : List Nat) : Prop :=
  ∀ i ∈ l, ∀ o, ops[i]? = some o → Step P md ops Q F W R V i o
theorem Steps.nil {F : (Nat → Value) → Act} {W : World → Prop} {R : Nat → World → World → Prop} {V : Nat → (Nat → Value) → World → Prop} : Steps P md ops Q F W R V [] := fun _ h => by cases h
theorem Steps.cons {F : (Nat → Value) → Act} {W : World → Prop} {R : Nat → World → World → Prop} {V : Nat → (Nat → Value) → World → Prop} {i : Nat} {l : List Nat} (hi : i < ops.size)
    (h : ∀ σ w, W w → (∀ k t, ((ops[i]).after.any fun e => Region.binds md e && e.on == k) = true → ((ops[k]?).map (·.dst)) = some t → V k σ w) →
      ∀ K : Act → World → Prop, Shut (∀ v w', W w' → R i w w' → V i (updo σ (ops[i]).dst v) w' → K ((F σ).put (ops[i]).dst v) w') →
        if Region.wanted ops[i] (yielded ops (F σ).tmps) = true then (ops[i]).wp P (F σ) w K Q else K ((F σ).put (ops[i]).dst undef) w)
    (hl : Steps P md ops Q F W R V l) : Steps P md ops Q F W R V (i :: l) := fun j hj oj hoj => by
  rcases List.mem_cons.1 hj with rfl | hj
  · rw [Array.getElem?_eq_getElem hi] at hoj; cases hoj; exact h
  · exact hl j hj oj hoj
/-- An operation without a guard. -/
theorem Steps.go {F : (Nat → Value) → Act} {W : World → Prop} {R : Nat → World → World → Prop} {V : Nat → (Nat → Value) → World → Prop} {i : Nat} {l : List Nat} (hi : i < ops.size) (hg : (ops[i]).guard = none)
    (h : ∀ σ w, W w → (∀ k t, ((ops[i]).after.any fun e => Region.binds md e && e.on == k) = true → ((ops[k]?).map (·.dst)) = some t → V k σ w) →
      ∀ K : Act → World → Prop, Shut (∀ v w', W w' → R i w w' → V i (updo σ (ops[i]).dst v) w' → K ((F σ).put (ops[i]).dst v) w') → (ops[i]).wp P (F σ) w K Q)
    (hl : Steps P md ops Q F W R V l) : Steps P md ops Q F W R V (i :: l) :=
  Steps.cons hi (fun σ w h1 h2 K hK => by
    have hw : Region.wanted ops[i] (yielded ops (F σ).tmps) = true := by simp [Region.wanted, hg]
    rw [if_pos hw]; exact h σ w h1 h2 K hK) hl
/-- An operation whose guard lets it run. -/
theorem Steps.on {F : (Nat → Value) → Act} {W : World → Prop} {R : Nat → World → World → Prop} {V : Nat → (Nat → Value) → World → Prop} {i : Nat} {l : List Nat} (hi : i < ops.size) (g dg : Nat) (b : Bool) (hg : (ops[i]).guard = some (g, b)) (hd : (ops[g]?).bind (·.dst) = some dg)
    (h : ∀ σ w, W w → (∀ k t, ((ops[i]).after.any fun e => Region.binds md e && e.on == k) = true → ((ops[k]?).map (·.dst)) = some t → V k σ w) →
      (F σ).tmps[dg]? = some (.bool b) ∧ ∀ K : Act → World → Prop, Shut (∀ v w', W w' → R i w w' → V i (updo σ (ops[i]).dst v) w' → K ((F σ).put (ops[i]).dst v) w') → (ops[i]).wp P (F σ) w K Q)
    (hl : Steps P md ops Q F W R V l) : Steps P md ops Q F W R V (i :: l) :=
  Steps.cons hi (fun σ w h1 h2 K hK => by
    obtain ⟨h3, h4⟩ := h σ w h1 h2
    have hw : Region.wanted ops[i] (yielded ops (F σ).tmps) = true := by
      simp only [Region.wanted, hg, yielded, hd, Option.bind_some, h3]
      simp
    rw [if_pos hw]; exact h4 K hK) hl
/-- An operation whose guard does not let it run. -/
theorem Steps.off {F : (Nat → Value) → Act} {W : World → Prop} {R : Nat → World → World → Prop} {V : Nat → (Nat → Value) → World → Prop} {i : Nat} {l : List Nat} (hi : i < ops.size) (g dg : Nat) (b : Bool) (u : Value) (hg : (ops[i]).guard = some (g, b)) (hd : (ops[g]?).bind (·.dst) = some dg) (hub : u = .bool (!b) ∨ u = undef)
    (h : ∀ σ w, W w → (∀ k t, ((ops[i]).after.any fun e => Region.binds md e && e.on == k) = true → ((ops[k]?).map (·.dst)) = some t → V k σ w) →
      (F σ).tmps[dg]? = some u ∧ R i w w ∧ V i (updo σ (ops[i]).dst undef) w)
    (hl : Steps P md ops Q F W R V l) : Steps P md ops Q F W R V (i :: l) :=
  Steps.cons hi (fun σ w h1 h2 K hK => by
    obtain ⟨h3, h4, h5⟩ := h σ w h1 h2
    have hw : ¬ Region.wanted ops[i] (yielded ops (F σ).tmps) = true := by
      simp only [Region.wanted, hg, yielded, hd, Option.bind_some, h3]
      rcases hub with rfl | rfl
      · cases b <;> simp
      · simp [undef]
    rw [if_neg hw]
    exact hK.out undef w h1 h4 h5) hl
theorem held_any (pre late : Nat → Bool) (a0 : Act) (ds : List Nat) (F : (Nat → Value) → Act) (hF : ∀ σ, putAll a0 ds σ = F σ) (W : World → Prop) (R : Nat → World → World → Prop) (V : Nat → (Nat → Value) → World → Prop) (ok : Ok md ops ds pre late)
    (stab : ∀ i k oi σ v w w', ops[i]? = some oi → late i = false → i ≠ k → dep md ops ops.size k i = false → V k σ w → R i w w' → V k (updo σ oi.dst v) w') (steps : ∀ i o, ops[i]? = some o → late i = false → pre i = false → Step P md ops Q F W R V i o)
    (rest : ∀ σ w, W w → (∀ k o, ops[k]? = some o → late k = false → V k σ w) → wpAny P md ops Q (left ops (Inv.early ops late)) (Inv.early ops late) (F σ) w) :
    ∀ (f : Nat) (listed : Array Bool) (a : Act) (w : World), left ops listed ≤ f → Held md ops pre late a0 ds W V listed a w → wpAny P md ops Q f listed a w := by
  intro f
  induction f with
  | zero =>
    intro listed a w hf h
    have hall : ∀ k, k < ops.size → listed.getD k false = true := fun k hk => by
      cases hb : listed.getD k false with
      | true => rfl
      | false =>
        have : 0 < left ops listed := List.countP_pos_iff.2 ⟨k, List.mem_range.2 hk, by simp only [hb]; rfl⟩
        omega
    have he : listed = Inv.early ops late := by
      apply Array.ext
      · simp [Inv.early, h.size]
      · intro i h1 h2
        have hi : i < ops.size := by rw [← h.size]; exact h1
        have h3 := hall i hi
        rw [getD_of_lt h1] at h3
        rw [h3]
        cases hl : late i with
        | false => simp [Inv.early, hl]
        | true => have := h.fresh i hl; rw [getD_of_lt h1, h3] at this; cases this
    obtain ⟨σ, rfl, hv⟩ := h.vals
    have hz : left ops (Inv.early ops late) ≤ 0 := by rw [← he]; exact hf
    have := wpAny_le hz (rest σ w h.world fun k o hk hl => hv k o hk hl (hall k (Array.getElem?_eq_some_iff.1 hk).1))
    rw [← he, ← hF] at this
    exact this
  | succ f ih =>
    intro listed a w hf h
    by_cases hex : ∃ k, k < ops.size ∧ late k = false ∧ listed.getD k false = false
    · obtain ⟨k0, hk0, hl0, hu0⟩ := hex
      have hp0 : pre k0 = false := by
        cases hq : pre k0 with
        | false => rfl
        | true => rw [h.begun k0 hq] at hu0; cases hu0
      -- the least that has not come up may come up
      have hready : ∀ n k, k < n → k < ops.size → listed.getD k false = false → Region.ready md ops listed ≠ [] := by
        intro n
        induction n with
        | zero => intro k hk; omega
        | succ n ihn =>
          intro k hk hks hu
          by_cases hless : ∃ j, j < k ∧ listed.getD j false = false
          · obtain ⟨j, hj, huj⟩ := hless
            exact ihn j (by omega) (by omega) huj
          · have hm : k ∈ Region.ready md ops listed := by
              refine mem_ready.2 ⟨?_, ops[k], Array.getElem?_eq_getElem hks, fun e he hb => ?_⟩
              · have : k < listed.size := by rw [h.size]; exact hks
                rw [getD_of_lt this] at hu ⊢; exact hu
              · have hlt := ok.less k _ (Array.getElem?_eq_getElem hks) e he hb
                cases hq : listed.getD e.on false with
                | true => rfl
                | false => exact absurd ⟨e.on, hlt, hq⟩ hless
            intro e; rw [e] at hm; cases hm
      refine ⟨fun e => absurd e (hready (k0 + 1) k0 (by omega) hk0 hu0), fun i hi => ?_⟩
      obtain ⟨hun, o, ho, hall⟩ := mem_ready.1 hi
      have hi' : i < ops.size := (Array.getElem?_eq_some_iff.1 ho).1
      have hil : i < listed.size := by rw [h.size]; exact hi'
      have hun' : listed.getD i false = false := by rw [getD_of_lt hil] at hun ⊢; exact hun
      have hpi : pre i = false := by
        cases hq : pre i with
        | false => rfl
        | true => rw [h.begun i hq] at hun'; cases hun'
      have hli : late i = false := by
        cases hq : late i with
        | false => rfl
        | true =>
          have h1 := ok.wait k0 hk0 hl0 hp0 i hi' hq
          rw [dep_listed h.closed k0 _ i o ho hall h1] at hu0
          cases hu0
      obtain ⟨σ, rfl, hv⟩ := h.vals
      have hst := steps i o ho hli hpi σ w h.world (fun k t hk hd => by
        obtain ⟨n, hn, h2⟩ := Array.any_eq_true.1 hk
        simp only [Bool.and_eq_true, beq_iff_eq] at h2
        obtain ⟨hb, rfl⟩ := h2
        have hl := hall _ (Array.getElem_mem hn) hb
        cases hok : ops[(o.after[n]).on]? with
        | none => rw [hok] at hd; cases hd
        | some ok' =>
          rw [hok] at hd
          cases hd
          have hle : late (o.after[n]).on = false := by
            cases hq : late (o.after[n]).on with
            | false => rfl
            | true => rw [h.fresh _ hq] at hl; cases hl
          exact hv _ ok' hok hle hl)
      rw [← hF] at hst
      refine wpOp_of_if ho (hst _ fun v w' hW hR hV => ih _ _ _ (by have := left_set (ops := ops) hi' h.size hun'; omega) ⟨?_, ?_, ?_, ?_, hW, ?_⟩)
      · simp [h.size]
      · intro k ok' hk hl e he hb
        by_cases hki : i = k
        · subst hki
          rw [ho] at hk; cases hk
          exact getD_set_true (hall e he hb)
        · rw [getD_set_ne false hki] at hl
          exact getD_set_true (h.closed k ok' hk hl e he hb)
      · intro k hk
        have : i ≠ k := fun e => by rw [← e, hli] at hk; cases hk
        rw [getD_set_ne false this]
        exact h.fresh k hk
      · intro k hk
        exact getD_set_true (h.begun k hk)
      · -- what is known of the others stays
        have hstay : ∀ k ok', ops[k]? = some ok' → late k = false → i ≠ k → listed.getD k false = true → V k (updo σ o.dst v) w' := fun k ok' hk hlk hki hl => by
          refine stab i k o σ v w w' ho hli hki ?_ (hv k ok' hk hlk hl) hR
          cases hdp : dep md ops ops.size k i with
          | false => rfl
          | true =>
            have := dep_listed h.closed i _ k ok' hk (h.closed k ok' hk hl) hdp
            rw [hun'] at this; cases this
        cases hd : o.dst with
        | none =>
          rw [hd] at hV hstay
          refine ⟨σ, rfl, fun k ok' hk hlk hl => ?_⟩
          by_cases hki : i = k
          · subst hki; exact hV
          · rw [getD_set_ne false hki] at hl
            exact hstay k ok' hk hlk hki hl
        | some d0 =>
          rw [hd] at hV hstay
          obtain ⟨hmem, hne⟩ := ok.dst i o d0 ho hli hd
          refine ⟨upd σ d0 v, putAll_put ds σ d0 v ok.nodup hmem a0, fun k ok' hk hlk hl => ?_⟩
          by_cases hki : i = k
          · subst hki; exact hV
          · rw [getD_set_ne false hki] at hl
            exact hstay k ok' hk hlk hki hl
    · have he : listed = Inv.early ops late := by
        apply Array.ext
        · simp [Inv.early, h.size]
        · intro i h1 h2
          have hi : i < ops.size := by rw [← h.size]; exact h1
          cases hl : late i with
          | false =>
            have : listed.getD i false = true := by
              cases hb : listed.getD i false with
              | true => rfl
              | false => exact absurd ⟨i, hi, hl, hb⟩ hex
            rw [getD_of_lt h1] at this
            simp [Inv.early, hl, this]
          | true =>
            have := h.fresh i hl
            rw [getD_of_lt h1] at this
            simp [Inv.early, hl, this]
      obtain ⟨σ, rfl, hv⟩ := h.vals
      have hz : left ops (Inv.early ops late) ≤ f + 1 := by rw [← he]; exact hf
      have := wpAny_le hz (rest σ w h.world fun k o hk hl => hv k o hk hl (by
        cases hb : listed.getD k false with
        | true => rfl
        | false => exact absurd ⟨k, (Array.getElem?_eq_some_iff.1 hk).1, hl, hb⟩ hex))
      rw [← he, ← hF] at this
      exact this
/-- **The rule**, in a region under way. -/
theorem wpAny_inv {fuel : Nat} {listed : Array Bool} {a : Act} {w : World} (late : Nat → Bool) (ds : List Nat) (W : World → Prop) (R : Nat → World → World → Prop) (V : Nat → (Nat → Value) → World → Prop) (F : (Nat → Value) → Act)
    (hF : ∀ σ, putAll a ds σ = F σ) (hfit : fitB md ops late listed fuel = true) (hok : okB md ops ds (fun k => listed.getD k false) late = true)
    (stab : ∀ i k oi σ v w w', ops[i]? = some oi → late i = false → i ≠ k → dep md ops ops.size k i = false → V k σ w → R i w w' → V k (updo σ oi.dst v) w') (hW : W w) (hV : ∀ k, listed.getD k false = true → V k (fun d => a.tmps.getD d undef) w)
    (steps : Steps P md ops Q F W R V ((List.range ops.size).filter fun k => !late k && !listed.getD k false))
    (m : Nat) (E : Array Bool) (hm : left ops (Inv.early ops late) = m) (hE : Inv.early ops late = E)
    (rest : ∀ σ w, W w → (∀ k, k < ops.size → late k = false → V k σ w) → wpAny P md ops Q m E (F σ) w) :
    wpAny P md ops Q fuel listed a w := by
  subst hm hE
  simp only [fitB, Bool.and_eq_true, decide_eq_true_eq, List.all_eq_true, List.mem_range] at hfit
  obtain ⟨⟨h1, h2⟩, h3⟩ := hfit
  have hin : ∀ k, listed.getD k false = true → k < ops.size := fun k hk => by
    rw [← h1]
    rcases Nat.lt_or_ge k listed.size with h | h
    · exact h
    · simp [Array.getElem?_eq_none h] at hk
  refine held_any (fun k => listed.getD k false) late a ds F hF W R V (okB_spec hok) stab (fun i o ho hl hp => steps i (List.mem_filter.2 ⟨List.mem_range.2 (Array.getElem?_eq_some_iff.1 ho).1, by rw [hl, hp]; rfl⟩) o ho)
    (fun σ w h1 h2 => rest σ w h1 fun k hk hl => h2 k ops[k] (Array.getElem?_eq_getElem hk) hl) fuel listed a w h2 ⟨h1, ?_, ?_, fun _ h => h, hW, _, (putAll_self ds a).symm, ?_⟩
  · intro k ok' hk hl e he hb
    have := h3 k (hin k hl)
    simp only [hl, hk, Bool.not_true, Bool.false_or, Bool.and_eq_true, Option.map_some, Option.getD_some] at this
    obtain ⟨n, hn, rfl⟩ := Array.mem_iff_getElem.1 he
    have h5 := Array.all_eq_true.1 this.2 n hn
    simpa [hb] using h5
  · intro k hk
    cases hq : listed.getD k false with
    | false => rfl
    | true =>
      have := h3 k (hin k hq)
      simp [hq, hk] at this
  · intro k o ho _ hl
    exact hV k hl
end
end InvS
end Go.Proofs.Ytklgnbimfobgkaa
