/- RefA: texts joined. -/
import Derived.Test.YtldgihlhioeipaaInvAB
import Derived.Test.YtldgihlhioeipaaGeoQ
import Derived.Test.YtldgihlhioeipaaGeoAI
import Derived.Laws.CopyOwn
import Derived.Deep.DeepCutAuto
import Derived.Deep.RegionHeld3
import Derived.RegionTactic
import Derived.Test.YtldgihlhioeipaaRTU
import Derived.Test.YtldgihlhioeipaaPlace
/- The rule of Inv where what is known of an operation may speak of the slots that it waits for. -/
namespace Go.Proofs.Ytldgihlhioeipaa
set_option linter.unusedVariables false
namespace InvS
open Go.Proofs.Ytldgihlhioeipaa.Inv
section
variable {P : Program} {ops : Array Oper} {Q : Exit → Act → World → Prop} {md : Region.Mode}
def updo (σ : Nat → Value) : Option Tmp → Value → Nat → Value
  | some d, v => upd σ d v
  | none, _ => σ
theorem updo_ne {σ : Nat → Value} {o : Option Tmp} {v : Value} {s : Nat} (h : o ≠ some s) : updo σ o v s = σ s := by
  cases o with
  | none => rfl
  | some d => exact upd_ne σ d s v (fun e => h (by rw [e]))
/-- The state of a region under way. -/
structure Held (md : Region.Mode) (ops : Array Oper) (pre late : Nat → Bool) (a0 : Act) (ds : List Nat) (W : World → Prop) (V : Nat → (Nat → Value) → World → Prop) (listed : Array Bool) (a : Act) (w : World) : Prop where
  size : listed.size = ops.size
  closed : Closed md ops listed
  fresh : ∀ k, late k = true → listed.getD k false = false
  begun : ∀ k, pre k = true → listed.getD k false = true
  world : W w
  vals : ∃ σ, a = putAll a0 ds σ ∧ ∀ k o, ops[k]? = some o → late k = false → listed.getD k false = true → V k σ w
/-- What is to be shown of one operation. -/
def Step (P : Program) (md : Region.Mode) (ops : Array Oper) (Q : Exit → Act → World → Prop) (F : (Nat → Value) → Act) (W : World → Prop) (R : Nat → World → World → Prop) (V : Nat → (Nat → Value) → World → Prop) (i : Nat) (o : Oper) : Prop :=
  ∀ σ w, W w → (∀ k t, (o.after.any fun e => Region.binds md e && e.on == k) = true → ((ops[k]?).map (·.dst)) = some t → V k σ w) →
    ∀ K : Act → World → Prop, Shut (∀ v w', W w' → R i w w' → V i (updo σ o.dst v) w' → K ((F σ).put o.dst v) w') →
      if Region.wanted o (yielded ops (F σ).tmps) = true then o.wp P (F σ) w K Q else K ((F σ).put o.dst undef) w
def Steps (P : Program) (md : Region.Mode) (ops : Array Oper) (Q : Exit → Act → World → Prop) (F : (Nat → Value) → Act) (W : World → Prop) (R : Nat → World → World → Prop) (V : Nat → (Nat → Value) → World → Prop) (l : List Nat) : Prop :=
  ∀ i ∈ l, ∀ o, ops[i]? = some o → Step P md ops Q F W R V i o
theorem Steps.nil {F : (Nat → Value) → Act} {W : World → Prop} {R : Nat → World → World → Prop} {V : Nat → (Nat → Value) → World → Prop} : Steps P md ops Q F W R V [] := fun _ h => by cases h
theorem Steps.cons {F : (Nat → Value) → Act} {W : World → Prop} {R : Nat → World → World → Prop} {V : Nat → (Nat → Value) → World → Prop} {i : Nat} {l : List Nat} (hi : i < ops.size)
    (h : ∀ σ w, W w → (∀ k t, ((ops[i]).after.any fun e => Region.binds md e && e.on == k) = true → ((ops[k]?).map (·.dst)) = some t → V k σ w) →
      ∀ K : Act → World → Prop, Shut (∀ v w', W w' → R i w w' → V i (updo σ (ops[i]).dst v) w' → K ((F σ).put (ops[i]).dst v) w') →
        if Region.wanted ops[i] (yielded ops (F σ).tmps) = true then (ops[i]).wp P (F σ) w K Q else K ((F σ).put (ops[i]).dst undef) w)
    (hl : Steps P md ops Q F W R V l) : Steps P md ops Q F W R V (i :: l) := fun j hj oj hoj => by
  rcases List.mem_cons.1 hj with rfl | hj
  · rw [Array.getElem?_eq_getElem hi] at hoj; cases hoj; exact h
  · exact hl j hj oj hoj
/-- An operation without a guard. -/
theorem Steps.go {F : (Nat → Value) → Act} {W : World → Prop} {R : Nat → World → World → Prop} {V : Nat → (Nat → Value) → World → Prop} {i : Nat} {l : List Nat} (hi : i < ops.size) (hg : (ops[i]).guard = none)
    (h : ∀ σ w, W w → (∀ k t, ((ops[i]).after.any fun e => Region.binds md e && e.on == k) = true → ((ops[k]?).map (·.dst)) = some t → V k σ w) →
      ∀ K : Act → World → Prop, Shut (∀ v w', W w' → R i w w' → V i (updo σ (ops[i]).dst v) w' → K ((F σ).put (ops[i]).dst v) w') → (ops[i]).wp P (F σ) w K Q)
    (hl : Steps P md ops Q F W R V l) : Steps P md ops Q F W R V (i :: l) :=
  Steps.cons hi (fun σ w h1 h2 K hK => by
    have hw : Region.wanted ops[i] (yielded ops (F σ).tmps) = true := by simp [Region.wanted, hg]
    rw [if_pos hw]; exact h σ w h1 h2 K hK) hl
/-- An operation whose guard lets it run. -/
theorem Steps.on {F : (Nat → Value) → Act} {W : World → Prop} {R : Nat → World → World → Prop} {V : Nat → (Nat → Value) → World → Prop} {i : Nat} {l : List Nat} (hi : i < ops.size) (g dg : Nat) (b : Bool) (hg : (ops[i]).guard = some (g, b)) (hd : (ops[g]?).bind (·.dst) = some dg)
    (h : ∀ σ w, W w → (∀ k t, ((ops[i]).after.any fun e => Region.binds md e && e.on == k) = true → ((ops[k]?).map (·.dst)) = some t → V k σ w) →
      (F σ).tmps[dg]? = some (.bool b) ∧ ∀ K : Act → World → Prop, Shut (∀ v w', W w' → R i w w' → V i (updo σ (ops[i]).dst v) w' → K ((F σ).put (ops[i]).dst v) w') → (ops[i]).wp P (F σ) w K Q)
    (hl : Steps P md ops Q F W R V l) : Steps P md ops Q F W R V (i :: l) :=
  Steps.cons hi (fun σ w h1 h2 K hK => by
    obtain ⟨h3, h4⟩ := h σ w h1 h2
    have hw : Region.wanted ops[i] (yielded ops (F σ).tmps) = true := by
      simp only [Region.wanted, hg, yielded, hd, Option.bind_some, h3]
      simp
    rw [if_pos hw]; exact h4 K hK) hl
/-- An operation whose guard does not let it run. -/
theorem Steps.off {F : (Nat → Value) → Act} {W : World → Prop} {R : Nat → World → World → Prop} {V : Nat → (Nat → Value) → World → Prop} {i : Nat} {l : List Nat} (hi : i < ops.size) (g dg : Nat) (b : Bool) (u : Value) (hg : (ops[i]).guard = some (g, b)) (hd : (ops[g]?).bind (·.dst) = some dg) (hub : u = .bool (!b) ∨ u = undef)
    (h : ∀ σ w, W w → (∀ k t, ((ops[i]).after.any fun e => Region.binds md e && e.on == k) = true → ((ops[k]?).map (·.dst)) = some t → V k σ w) →
      (F σ).tmps[dg]? = some u ∧ R i w w ∧ V i (updo σ (ops[i]).dst undef) w)
    (hl : Steps P md ops Q F W R V l) : Steps P md ops Q F W R V (i :: l) :=
  Steps.cons hi (fun σ w h1 h2 K hK => by
    obtain ⟨h3, h4, h5⟩ := h σ w h1 h2
    have hw : ¬ Region.wanted ops[i] (yielded ops (F σ).tmps) = true := by
      simp only [Region.wanted, hg, yielded, hd, Option.bind_some, h3]
      rcases hub with rfl | rfl
      · cases b <;> simp
      · simp [undef]
    rw [if_neg hw]
    exact hK.out undef w h1 h4 h5) hl
theorem held_any (pre late : Nat → Bool) (a0 : Act) (ds : List Nat) (F : (Nat → Value) → Act) (hF : ∀ σ, putAll a0 ds σ = F σ) (W : World → Prop) (R : Nat → World → World → Prop) (V : Nat → (Nat → Value) → World → Prop) (ok : Ok md ops ds pre late)
    (stab : ∀ i k oi σ v w w', ops[i]? = some oi → late i = false → i ≠ k → dep md ops ops.size k i = false → V k σ w → R i w w' → V k (updo σ oi.dst v) w') (steps : ∀ i o, ops[i]? = some o → late i = false → pre i = false → Step P md ops Q F W R V i o)
    (rest : ∀ σ w, W w → (∀ k o, ops[k]? = some o → late k = false → V k σ w) → wpAny P md ops Q (left ops (Inv.early ops late)) (Inv.early ops late) (F σ) w) :
    ∀ (f : Nat) (listed : Array Bool) (a : Act) (w : World), left ops listed ≤ f → Held md ops pre late a0 ds W V listed a w → wpAny P md ops Q f listed a w := by
  intro f
  induction f with
  | zero =>
    intro listed a w hf h
    have hall : ∀ k, k < ops.size → listed.getD k false = true := fun k hk => by
      cases hb : listed.getD k false with
      | true => rfl
      | false =>
        have : 0 < left ops listed := List.countP_pos_iff.2 ⟨k, List.mem_range.2 hk, by simp only [hb]; rfl⟩
        omega
    have he : listed = Inv.early ops late := by
      apply Array.ext
      · simp [Inv.early, h.size]
      · intro i h1 h2
        have hi : i < ops.size := by rw [← h.size]; exact h1
        have h3 := hall i hi
        rw [getD_of_lt h1] at h3
        rw [h3]
        cases hl : late i with
        | false => simp [Inv.early, hl]
        | true => have := h.fresh i hl; rw [getD_of_lt h1, h3] at this; cases this
    obtain ⟨σ, rfl, hv⟩ := h.vals
    have hz : left ops (Inv.early ops late) ≤ 0 := by rw [← he]; exact hf
    have := wpAny_le hz (rest σ w h.world fun k o hk hl => hv k o hk hl (hall k (Array.getElem?_eq_some_iff.1 hk).1))
    rw [← he, ← hF] at this
    exact this
  | succ f ih =>
    intro listed a w hf h
    by_cases hex : ∃ k, k < ops.size ∧ late k = false ∧ listed.getD k false = false
    · obtain ⟨k0, hk0, hl0, hu0⟩ := hex
      have hp0 : pre k0 = false := by
        cases hq : pre k0 with
        | false => rfl
        | true => rw [h.begun k0 hq] at hu0; cases hu0
      -- the least that has not come up may come up
      have hready : ∀ n k, k < n → k < ops.size → listed.getD k false = false → Region.ready md ops listed ≠ [] := by
        intro n
        induction n with
        | zero => intro k hk; omega
        | succ n ihn =>
          intro k hk hks hu
          by_cases hless : ∃ j, j < k ∧ listed.getD j false = false
          · obtain ⟨j, hj, huj⟩ := hless
            exact ihn j (by omega) (by omega) huj
          · have hm : k ∈ Region.ready md ops listed := by
              refine mem_ready.2 ⟨?_, ops[k], Array.getElem?_eq_getElem hks, fun e he hb => ?_⟩
              · have : k < listed.size := by rw [h.size]; exact hks
                rw [getD_of_lt this] at hu ⊢; exact hu
              · have hlt := ok.less k _ (Array.getElem?_eq_getElem hks) e he hb
                cases hq : listed.getD e.on false with
                | true => rfl
                | false => exact absurd ⟨e.on, hlt, hq⟩ hless
            intro e; rw [e] at hm; cases hm
      refine ⟨fun e => absurd e (hready (k0 + 1) k0 (by omega) hk0 hu0), fun i hi => ?_⟩
      obtain ⟨hun, o, ho, hall⟩ := mem_ready.1 hi
      have hi' : i < ops.size := (Array.getElem?_eq_some_iff.1 ho).1
      have hil : i < listed.size := by rw [h.size]; exact hi'
      have hun' : listed.getD i false = false := by rw [getD_of_lt hil] at hun ⊢; exact hun
      have hpi : pre i = false := by
        cases hq : pre i with
        | false => rfl
        | true => rw [h.begun i hq] at hun'; cases hun'
      have hli : late i = false := by
        cases hq : late i with
        | false => rfl
        | true =>
          have h1 := ok.wait k0 hk0 hl0 hp0 i hi' hq
          rw [dep_listed h.closed k0 _ i o ho hall h1] at hu0
          cases hu0
      obtain ⟨σ, rfl, hv⟩ := h.vals
      have hst := steps i o ho hli hpi σ w h.world (fun k t hk hd => by
        obtain ⟨n, hn, h2⟩ := Array.any_eq_true.1 hk
        simp only [Bool.and_eq_true, beq_iff_eq] at h2
        obtain ⟨hb, rfl⟩ := h2
        have hl := hall _ (Array.getElem_mem hn) hb
        cases hok : ops[(o.after[n]).on]? with
        | none => rw [hok] at hd; cases hd
        | some ok' =>
          rw [hok] at hd
          cases hd
          have hle : late (o.after[n]).on = false := by
            cases hq : late (o.after[n]).on with
            | false => rfl
            | true => rw [h.fresh _ hq] at hl; cases hl
          exact hv _ ok' hok hle hl)
      rw [← hF] at hst
      refine wpOp_of_if ho (hst _ fun v w' hW hR hV => ih _ _ _ (by have := left_set (ops := ops) hi' h.size hun'; omega) ⟨?_, ?_, ?_, ?_, hW, ?_⟩)
      · simp [h.size]
      · intro k ok' hk hl e he hb
        by_cases hki : i = k
        · subst hki
          rw [ho] at hk; cases hk
          exact getD_set_true (hall e he hb)
        · rw [getD_set_ne false hki] at hl
          exact getD_set_true (h.closed k ok' hk hl e he hb)
      · intro k hk
        have : i ≠ k := fun e => by rw [← e, hli] at hk; cases hk
        rw [getD_set_ne false this]
        exact h.fresh k hk
      · intro k hk
        exact getD_set_true (h.begun k hk)
      · -- what is known of the others stays
        have hstay : ∀ k ok', ops[k]? = some ok' → late k = false → i ≠ k → listed.getD k false = true → V k (updo σ o.dst v) w' := fun k ok' hk hlk hki hl => by
          refine stab i k o σ v w w' ho hli hki ?_ (hv k ok' hk hlk hl) hR
          cases hdp : dep md ops ops.size k i with
          | false => rfl
          | true =>
            have := dep_listed h.closed i _ k ok' hk (h.closed k ok' hk hl) hdp
            rw [hun'] at this; cases this
        cases hd : o.dst with
        | none =>
          rw [hd] at hV hstay
          refine ⟨σ, rfl, fun k ok' hk hlk hl => ?_⟩
          by_cases hki : i = k
          · subst hki; exact hV
          · rw [getD_set_ne false hki] at hl
            exact hstay k ok' hk hlk hki hl
        | some d0 =>
          rw [hd] at hV hstay
          obtain ⟨hmem, hne⟩ := ok.dst i o d0 ho hli hd
          refine ⟨upd σ d0 v, putAll_put ds σ d0 v ok.nodup hmem a0, fun k ok' hk hlk hl => ?_⟩
          by_cases hki : i = k
          · subst hki; exact hV
          · rw [getD_set_ne false hki] at hl
            exact hstay k ok' hk hlk hki hl
    · have he : listed = Inv.early ops late := by
        apply Array.ext
        · simp [Inv.early, h.size]
        · intro i h1 h2
          have hi : i < ops.size := by rw [← h.size]; exact h1
          cases hl : late i with
          | false =>
            have : listed.getD i false = true := by
              cases hb : listed.getD i false with
              | true => rfl
              | false => exact absurd ⟨i, hi, hl, hb⟩ hex
            rw [getD_of_lt h1] at this
            simp [Inv.early, hl, this]
          | true =>
            have := h.fresh i hl
            rw [getD_of_lt h1] at this
            simp [Inv.early, hl, this]
      obtain ⟨σ, rfl, hv⟩ := h.vals
      have hz : left ops (Inv.early ops late) ≤ f + 1 := by rw [← he]; exact hf
      have := wpAny_le hz (rest σ w h.world fun k o hk hl => hv k o hk hl (by
        cases hb : listed.getD k false with
        | true => rfl
        | false => exact absurd ⟨k, (Array.getElem?_eq_some_iff.1 hk).1, hl, hb⟩ hex))
      rw [← he, ← hF] at this
      exact this
/-- **The rule**, in a region under way. -/
theorem wpAny_inv {fuel : Nat} {listed : Array Bool} {a : Act} {w : World} (late : Nat → Bool) (ds : List Nat) (W : World → Prop) (R : Nat → World → World → Prop) (V : Nat → (Nat → Value) → World → Prop) (F : (Nat → Value) → Act)
    (hF : ∀ σ, putAll a ds σ = F σ) (hfit : fitB md ops late listed fuel = true) (hok : okB md ops ds (fun k => listed.getD k false) late = true)
    (stab : ∀ i k oi σ v w w', ops[i]? = some oi → late i = false → i ≠ k → dep md ops ops.size k i = false → V k σ w → R i w w' → V k (updo σ oi.dst v) w') (hW : W w) (hV : ∀ k, listed.getD k false = true → V k (fun d => a.tmps.getD d undef) w)
    (steps : Steps P md ops Q F W R V ((List.range ops.size).filter fun k => !late k && !listed.getD k false))
    (m : Nat) (E : Array Bool) (hm : left ops (Inv.early ops late) = m) (hE : Inv.early ops late = E)
    (rest : ∀ σ w, W w → (∀ k, k < ops.size → late k = false → V k σ w) → wpAny P md ops Q m E (F σ) w) :
    wpAny P md ops Q fuel listed a w := by
  subst hm hE
  simp only [fitB, Bool.and_eq_true, decide_eq_true_eq, List.all_eq_true, List.mem_range] at hfit
  obtain ⟨⟨h1, h2⟩, h3⟩ := hfit
  have hin : ∀ k, listed.getD k false = true → k < ops.size := fun k hk => by
    rw [← h1]
    rcases Nat.lt_or_ge k listed.size with h | h
    · exact h
    · simp [Array.getElem?_eq_none h] at hk
  refine held_any (fun k => listed.getD k false) late a ds F hF W R V (okB_spec hok) stab (fun i o ho hl hp => steps i (List.mem_filter.2 ⟨List.mem_range.2 (Array.getElem?_eq_some_iff.1 ho).1, by rw [hl, hp]; rfl⟩) o ho)
    (fun σ w h1 h2 => rest σ w h1 fun k hk hl => h2 k ops[k] (Array.getElem?_eq_getElem hk) hl) fuel listed a w h2 ⟨h1, ?_, ?_, fun _ h => h, hW, _, (putAll_self ds a).symm, ?_⟩
  · intro k ok' hk hl e he hb
    have := h3 k (hin k hl)
    simp only [hl, hk, Bool.not_true, Bool.false_or, Bool.and_eq_true, Option.map_some, Option.getD_some] at this
    obtain ⟨n, hn, rfl⟩ := Array.mem_iff_getElem.1 he
    have h5 := Array.all_eq_true.1 this.2 n hn
    simpa [hb] using h5
  · intro k hk
    cases hq : listed.getD k false with
    | false => rfl
    | true =>
      have := h3 k (hin k hq)
      simp [hq, hk] at this
  · intro k o ho _ hl
    exact hV k hl
end
end InvS
end Go.Proofs.Ytldgihlhioeipaa

/- Package geometry at any boxes. -/
set_option linter.unusedVariables false
set_option linter.unusedSimpArgs false
namespace Go.Proofs.Ytldgihlhioeipaa
open Go.RowKit
namespace Geo
/-- Whether a box is valid. -/
def bvB (a b c d e f : Int) : Bool := decide (a ≤ d) && (decide (b ≤ e) && (decide (c ≤ f) && (pvB a b c && pvB d e f)))
theorem bvB_yes {a b c d e f : Int} (h : bvB a b c d e f = true) : BV a b c d e f := by
  simp only [bvB, Bool.and_eq_true, decide_eq_true_eq] at h
  exact ⟨pvB_yes h.2.2.2.1, pvB_yes h.2.2.2.2, h.1, h.2.1, h.2.2.1⟩
theorem bvB_of {a b c d e f : Int} (h : BV a b c d e f) : bvB a b c d e f = true := by
  obtain ⟨h1, h2, h3, h4, h5⟩ := h
  simp [bvB, pvB_of h1, pvB_of h2, h3, h4, h5]
set_option maxHeartbeats 1000000 in
theorem validBox_ok (a b c d e f : Int) (hx : a ≤ d) (hy : b ≤ e) (hz : c ≤ f) (w : World) :
    Calls Try.prog 68 #[.agg #[.int .i64 a, .int .i64 b, .int .i64 c, .int .i64 d, .int .i64 e, .int .i64 f]] w fun r w' => r = .returned (.bool (pvB a b c && pvB d e f)) ∧ Below w.heap.size w w' := by
  have V1 := Lib.hid (valid_any a b c)
  have V2 := Lib.hid (valid_any d e f)
  obtain ⟨p1, hp1⟩ : ∃ q, q = pvB a b c := ⟨_, rfl⟩
  obtain ⟨p2, hp2⟩ : ∃ q, q = pvB d e f := ⟨_, rfl⟩
  rw [← hp1] at V1 ⊢
  rw [← hp2] at V2 ⊢
  clear hp1 hp2
  have g1 := Lib.hid (blk_new w (.cells #[.int .i64 a, .int .i64 b, .int .i64 c, .int .i64 d, .int .i64 e, .int .i64 f] 26))
  go_enter Try.func68, Try.ntmps68
  go_wp2_with fail
  refine (ends_any a b c d e f _).mono ?_
  rintro r w1 ⟨rfl, hb⟩
  replace g1 := Lib.hid (blk_alloc (blk_alloc (blk_b hb g1.out) (.cells #[.int .i64 a, .int .i64 b, .int .i64 c] 95)) (.cells #[.int .i64 d, .int .i64 e, .int .i64 f] 95))
  have g2 := Lib.hid (blk_alloc (blk_new w1 (.cells #[.int .i64 a, .int .i64 b, .int .i64 c] 95)) (.cells #[.int .i64 d, .int .i64 e, .int .i64 f] 95))
  have g3 := Lib.hid (blk_new1 w1 (.cells #[.int .i64 a, .int .i64 b, .int .i64 c] 95) (.cells #[.int .i64 d, .int .i64 e, .int .i64 f] 95))
  have hW : Hid (Below w.heap.size w ((w1.alloc (.cells #[.int .i64 a, .int .i64 b, .int .i64 c] 95)).alloc (.cells #[.int .i64 d, .int .i64 e, .int .i64 f] 95))) := Lib.hid (Buf.then_ (Buf.then_ (Buf.then_ (new_block _) hb) (new_block _)) (new_block _))
  clear hb
  go_wp2_with fail
  go_loopw [11] (fun i wr => ∃ k : Nat, k ≤ 3 ∧ i = .int .i64 k ∧ Hid (wr.heap[w.heap.size]? = some (.cells #[.int .i64 a, .int .i64 b, .int .i64 c, .int .i64 d, .int .i64 e, .int .i64 f] 26 (0, 0))) ∧ Hid (wr.heap[w1.heap.size]? = some (.cells #[.int .i64 a, .int .i64 b, .int .i64 c] 95 (0, 0))) ∧ Hid (wr.heap[w1.heap.size + 1]? = some (.cells #[.int .i64 d, .int .i64 e, .int .i64 f] 95 (0, 0))) ∧ Hid (Below w.heap.size w wr)) (fun i _ => (3 - intOf i).toNat)
  case atStart => exact ⟨0, by omega, rfl, g1, g2, g3, hW⟩
  case round =>
    clear g1 g2 g3 hW
    obtain ⟨k, hk, rfl, g1, g2, g3, hW⟩ := hrel
    obtain ⟨a1, a2, a3, a4, a5, a6⟩ := cells6 g1.out
    obtain ⟨b1, b2, b3, _, _, _⟩ := cells3 g2.out
    obtain ⟨c1, c2, c3, _, _, _⟩ := cells3 g3.out
    by_cases h0 : k = 0
    · subst h0
      go_wp2
      go_quiet (fail)
      go_wp2
      go_roundw
      case rel => exact ⟨1, by omega, rfl, g1, g2, g3, Lib.hid (Buf.below_drewN hW.out _)⟩
      case measure => simp [intOf]
    by_cases h1 : k = 1
    · subst h1
      go_wp2
      go_quiet (fail)
      go_wp2
      go_roundw
      case rel => exact ⟨2, by omega, rfl, g1, g2, g3, Lib.hid (Buf.below_drewN hW.out _)⟩
      case measure => simp [intOf]
    by_cases h2 : k = 2
    · subst h2
      go_wp2
      go_quiet (fail)
      go_wp2
      go_roundw
      case rel => exact ⟨3, by omega, rfl, g1, g2, g3, Lib.hid (Buf.below_drewN hW.out _)⟩
      case measure => simp [intOf]
    obtain rfl : k = 3 := by omega
    clear b1 b2 b3 c1 c2 c3 g2 g3
    go_wp2_with fail
    with_reducible refine (V1.out _).mono ?_
    rintro r w2 ⟨rfl, hb⟩
    obtain ⟨d1, d2, d3, d4, d5, d6⟩ := cells6 (blk_b hb g1.out)
    have hW2 := Lib.hid (Buf.then_ hW.out hb)
    clear hb hW a1 a2 a3 a4 a5 a6
    cases p1 with
    | true =>
      go_wp2_with fail
      with_reducible refine (V2.out _).mono ?_
      rintro r w3 ⟨rfl, hb⟩
      have hW3 := Lib.hid (Buf.then_ hW2.out hb)
      clear hb hW2
      go_wp2
      go_ret
      exact ⟨rfl, hW3.out⟩
    | false =>
      go_wp2_with fail
      go_ret
      exact ⟨rfl, hW2.out⟩
set_option maxHeartbeats 1000000 in
theorem validBox_no0 (a b c d e f : Int) (hx : d < a) (w : World) :
    Calls Try.prog 68 #[.agg #[.int .i64 a, .int .i64 b, .int .i64 c, .int .i64 d, .int .i64 e, .int .i64 f]] w fun r w' => r = .returned (.bool false) ∧ Below w.heap.size w w' := by
  have g1 := Lib.hid (blk_new w (.cells #[.int .i64 a, .int .i64 b, .int .i64 c, .int .i64 d, .int .i64 e, .int .i64 f] 26))
  go_enter Try.func68, Try.ntmps68
  go_wp2_with fail
  refine (ends_any a b c d e f _).mono ?_
  rintro r w1 ⟨rfl, hb⟩
  replace g1 := Lib.hid (blk_alloc (blk_alloc (blk_b hb g1.out) (.cells #[.int .i64 a, .int .i64 b, .int .i64 c] 95)) (.cells #[.int .i64 d, .int .i64 e, .int .i64 f] 95))
  have g2 := Lib.hid (blk_alloc (blk_new w1 (.cells #[.int .i64 a, .int .i64 b, .int .i64 c] 95)) (.cells #[.int .i64 d, .int .i64 e, .int .i64 f] 95))
  have g3 := Lib.hid (blk_new1 w1 (.cells #[.int .i64 a, .int .i64 b, .int .i64 c] 95) (.cells #[.int .i64 d, .int .i64 e, .int .i64 f] 95))
  have hW : Hid (Below w.heap.size w ((w1.alloc (.cells #[.int .i64 a, .int .i64 b, .int .i64 c] 95)).alloc (.cells #[.int .i64 d, .int .i64 e, .int .i64 f] 95))) := Lib.hid (Buf.then_ (Buf.then_ (Buf.then_ (new_block _) hb) (new_block _)) (new_block _))
  clear hb
  go_wp2_with fail
  go_loopw [11] (fun i wr => ∃ k : Nat, k ≤ 0 ∧ i = .int .i64 k ∧ Hid (wr.heap[w.heap.size]? = some (.cells #[.int .i64 a, .int .i64 b, .int .i64 c, .int .i64 d, .int .i64 e, .int .i64 f] 26 (0, 0))) ∧ Hid (wr.heap[w1.heap.size]? = some (.cells #[.int .i64 a, .int .i64 b, .int .i64 c] 95 (0, 0))) ∧ Hid (wr.heap[w1.heap.size + 1]? = some (.cells #[.int .i64 d, .int .i64 e, .int .i64 f] 95 (0, 0))) ∧ Hid (Below w.heap.size w wr)) (fun i _ => (3 - intOf i).toNat)
  case atStart => exact ⟨0, by omega, rfl, g1, g2, g3, hW⟩
  case round =>
    clear g1 g2 g3 hW
    obtain ⟨k, hk, rfl, g1, g2, g3, hW⟩ := hrel
    obtain ⟨a1, a2, a3, a4, a5, a6⟩ := cells6 g1.out
    obtain ⟨b1, b2, b3, _, _, _⟩ := cells3 g2.out
    obtain ⟨c1, c2, c3, _, _, _⟩ := cells3 g3.out
    obtain rfl : k = 0 := by omega
    go_wp2
    go_quiet (fail)
    go_wp2
    go_ret
    exact ⟨rfl, Buf.below_drewN hW.out _⟩
set_option maxHeartbeats 1000000 in
theorem validBox_no1 (a b c d e f : Int) (hx : a ≤ d) (hy : e < b) (w : World) :
    Calls Try.prog 68 #[.agg #[.int .i64 a, .int .i64 b, .int .i64 c, .int .i64 d, .int .i64 e, .int .i64 f]] w fun r w' => r = .returned (.bool false) ∧ Below w.heap.size w w' := by
  have g1 := Lib.hid (blk_new w (.cells #[.int .i64 a, .int .i64 b, .int .i64 c, .int .i64 d, .int .i64 e, .int .i64 f] 26))
  go_enter Try.func68, Try.ntmps68
  go_wp2_with fail
  refine (ends_any a b c d e f _).mono ?_
  rintro r w1 ⟨rfl, hb⟩
  replace g1 := Lib.hid (blk_alloc (blk_alloc (blk_b hb g1.out) (.cells #[.int .i64 a, .int .i64 b, .int .i64 c] 95)) (.cells #[.int .i64 d, .int .i64 e, .int .i64 f] 95))
  have g2 := Lib.hid (blk_alloc (blk_new w1 (.cells #[.int .i64 a, .int .i64 b, .int .i64 c] 95)) (.cells #[.int .i64 d, .int .i64 e, .int .i64 f] 95))
  have g3 := Lib.hid (blk_new1 w1 (.cells #[.int .i64 a, .int .i64 b, .int .i64 c] 95) (.cells #[.int .i64 d, .int .i64 e, .int .i64 f] 95))
  have hW : Hid (Below w.heap.size w ((w1.alloc (.cells #[.int .i64 a, .int .i64 b, .int .i64 c] 95)).alloc (.cells #[.int .i64 d, .int .i64 e, .int .i64 f] 95))) := Lib.hid (Buf.then_ (Buf.then_ (Buf.then_ (new_block _) hb) (new_block _)) (new_block _))
  clear hb
  go_wp2_with fail
  go_loopw [11] (fun i wr => ∃ k : Nat, k ≤ 1 ∧ i = .int .i64 k ∧ Hid (wr.heap[w.heap.size]? = some (.cells #[.int .i64 a, .int .i64 b, .int .i64 c, .int .i64 d, .int .i64 e, .int .i64 f] 26 (0, 0))) ∧ Hid (wr.heap[w1.heap.size]? = some (.cells #[.int .i64 a, .int .i64 b, .int .i64 c] 95 (0, 0))) ∧ Hid (wr.heap[w1.heap.size + 1]? = some (.cells #[.int .i64 d, .int .i64 e, .int .i64 f] 95 (0, 0))) ∧ Hid (Below w.heap.size w wr)) (fun i _ => (3 - intOf i).toNat)
  case atStart => exact ⟨0, by omega, rfl, g1, g2, g3, hW⟩
  case round =>
    clear g1 g2 g3 hW
    obtain ⟨k, hk, rfl, g1, g2, g3, hW⟩ := hrel
    obtain ⟨a1, a2, a3, a4, a5, a6⟩ := cells6 g1.out
    obtain ⟨b1, b2, b3, _, _, _⟩ := cells3 g2.out
    obtain ⟨c1, c2, c3, _, _, _⟩ := cells3 g3.out
    by_cases h0 : k = 0
    · subst h0
      go_wp2
      go_quiet (fail)
      go_wp2
      go_roundw
      case rel => exact ⟨1, by omega, rfl, g1, g2, g3, Lib.hid (Buf.below_drewN hW.out _)⟩
      case measure => simp [intOf]
    obtain rfl : k = 1 := by omega
    go_wp2
    go_quiet (fail)
    go_wp2
    go_ret
    exact ⟨rfl, Buf.below_drewN hW.out _⟩
set_option maxHeartbeats 1000000 in
theorem validBox_no2 (a b c d e f : Int) (hx : a ≤ d) (hy : b ≤ e) (hz : f < c) (w : World) :
    Calls Try.prog 68 #[.agg #[.int .i64 a, .int .i64 b, .int .i64 c, .int .i64 d, .int .i64 e, .int .i64 f]] w fun r w' => r = .returned (.bool false) ∧ Below w.heap.size w w' := by
  have g1 := Lib.hid (blk_new w (.cells #[.int .i64 a, .int .i64 b, .int .i64 c, .int .i64 d, .int .i64 e, .int .i64 f] 26))
  go_enter Try.func68, Try.ntmps68
  go_wp2_with fail
  refine (ends_any a b c d e f _).mono ?_
  rintro r w1 ⟨rfl, hb⟩
  replace g1 := Lib.hid (blk_alloc (blk_alloc (blk_b hb g1.out) (.cells #[.int .i64 a, .int .i64 b, .int .i64 c] 95)) (.cells #[.int .i64 d, .int .i64 e, .int .i64 f] 95))
  have g2 := Lib.hid (blk_alloc (blk_new w1 (.cells #[.int .i64 a, .int .i64 b, .int .i64 c] 95)) (.cells #[.int .i64 d, .int .i64 e, .int .i64 f] 95))
  have g3 := Lib.hid (blk_new1 w1 (.cells #[.int .i64 a, .int .i64 b, .int .i64 c] 95) (.cells #[.int .i64 d, .int .i64 e, .int .i64 f] 95))
  have hW : Hid (Below w.heap.size w ((w1.alloc (.cells #[.int .i64 a, .int .i64 b, .int .i64 c] 95)).alloc (.cells #[.int .i64 d, .int .i64 e, .int .i64 f] 95))) := Lib.hid (Buf.then_ (Buf.then_ (Buf.then_ (new_block _) hb) (new_block _)) (new_block _))
  clear hb
  go_wp2_with fail
  go_loopw [11] (fun i wr => ∃ k : Nat, k ≤ 2 ∧ i = .int .i64 k ∧ Hid (wr.heap[w.heap.size]? = some (.cells #[.int .i64 a, .int .i64 b, .int .i64 c, .int .i64 d, .int .i64 e, .int .i64 f] 26 (0, 0))) ∧ Hid (wr.heap[w1.heap.size]? = some (.cells #[.int .i64 a, .int .i64 b, .int .i64 c] 95 (0, 0))) ∧ Hid (wr.heap[w1.heap.size + 1]? = some (.cells #[.int .i64 d, .int .i64 e, .int .i64 f] 95 (0, 0))) ∧ Hid (Below w.heap.size w wr)) (fun i _ => (3 - intOf i).toNat)
  case atStart => exact ⟨0, by omega, rfl, g1, g2, g3, hW⟩
  case round =>
    clear g1 g2 g3 hW
    obtain ⟨k, hk, rfl, g1, g2, g3, hW⟩ := hrel
    obtain ⟨a1, a2, a3, a4, a5, a6⟩ := cells6 g1.out
    obtain ⟨b1, b2, b3, _, _, _⟩ := cells3 g2.out
    obtain ⟨c1, c2, c3, _, _, _⟩ := cells3 g3.out
    by_cases h0 : k = 0
    · subst h0
      go_wp2
      go_quiet (fail)
      go_wp2
      go_roundw
      case rel => exact ⟨1, by omega, rfl, g1, g2, g3, Lib.hid (Buf.below_drewN hW.out _)⟩
      case measure => simp [intOf]
    by_cases h1 : k = 1
    · subst h1
      go_wp2
      go_quiet (fail)
      go_wp2
      go_roundw
      case rel => exact ⟨2, by omega, rfl, g1, g2, g3, Lib.hid (Buf.below_drewN hW.out _)⟩
      case measure => simp [intOf]
    obtain rfl : k = 2 := by omega
    go_wp2
    go_quiet (fail)
    go_wp2
    go_ret
    exact ⟨rfl, Buf.below_drewN hW.out _⟩
theorem validBox_any (a b c d e f : Int) (w : World) :
    Calls Try.prog 68 #[.agg #[.int .i64 a, .int .i64 b, .int .i64 c, .int .i64 d, .int .i64 e, .int .i64 f]] w fun r w' => r = .returned (.bool (bvB a b c d e f)) ∧ Below w.heap.size w w' := by
  unfold bvB
  by_cases hx : a ≤ d
  · rw [decide_eq_true hx, Bool.true_and]
    by_cases hy : b ≤ e
    · rw [decide_eq_true hy, Bool.true_and]
      by_cases hz : c ≤ f
      · rw [decide_eq_true hz, Bool.true_and]
        exact validBox_ok a b c d e f hx hy hz w
      · rw [decide_eq_false hz, Bool.false_and]
        exact validBox_no2 a b c d e f hx hy (by omega) w
    · rw [decide_eq_false hy, Bool.false_and]
      exact validBox_no1 a b c d e f hx (by omega) w
  · rw [decide_eq_false hx, Bool.false_and]
    exact validBox_no0 a b c d e f (by omega) w
end Geo
end Go.Proofs.Ytldgihlhioeipaa

/- Package geometry at any boxes: Near, Far, Points, Center. -/
set_option linter.unusedVariables false
set_option linter.unusedSimpArgs false
namespace Go.Proofs.Ytldgihlhioeipaa
open Go.RowKit
namespace Geo
set_option maxHeartbeats 8000000 in
set_option maxRecDepth 100000 in
theorem withinv_no1 (a b c d e f a' b' c' d' e' f' : Int) (h1 : bvB a b c d e f = false) (w : World) :
    Calls Try.prog 51 #[.agg #[.int .i64 a, .int .i64 b, .int .i64 c, .int .i64 d, .int .i64 e, .int .i64 f], .agg #[.int .i64 a', .int .i64 b', .int .i64 c', .int .i64 d', .int .i64 e', .int .i64 f']] w fun r w' => r = .returned (.bool false) ∧ Below w.heap.size w w' := by
  have V1 := Lib.hid fun w => validBox_any a b c d e f w
  rw [h1] at V1
  clear h1
  go_enter Try.func51, Try.ntmps51
  have hA := Lib.hid (Buf.then_ (new_block (w := w) (.cells #[.int .i64 a, .int .i64 b, .int .i64 c, .int .i64 d, .int .i64 e, .int .i64 f] 26)) (new_block (.cells #[.int .i64 a', .int .i64 b', .int .i64 c', .int .i64 d', .int .i64 e', .int .i64 f'] 26)))
  go_wp2_with fail
  with_reducible refine (V1.out _).mono ?_
  rintro r w1 ⟨rfl, hb⟩
  replace hA := Lib.hid (Buf.then_ hA.out hb)
  clear hb
  go_wp2_with fail
  go_ret
  exact ⟨rfl, hA.out⟩
set_option maxHeartbeats 8000000 in
set_option maxRecDepth 100000 in
theorem withinv_no2 (a b c d e f a' b' c' d' e' f' : Int) (h1 : bvB a b c d e f = true) (h2 : bvB a' b' c' d' e' f' = false) (w : World) :
    Calls Try.prog 51 #[.agg #[.int .i64 a, .int .i64 b, .int .i64 c, .int .i64 d, .int .i64 e, .int .i64 f], .agg #[.int .i64 a', .int .i64 b', .int .i64 c', .int .i64 d', .int .i64 e', .int .i64 f']] w fun r w' => r = .returned (.bool false) ∧ Below w.heap.size w w' := by
  have V1 := Lib.hid fun w => validBox_any a b c d e f w
  rw [h1] at V1
  have V2 := Lib.hid fun w => validBox_any a' b' c' d' e' f' w
  rw [h2] at V2
  clear h1 h2
  go_enter Try.func51, Try.ntmps51
  have hA := Lib.hid (Buf.then_ (new_block (w := w) (.cells #[.int .i64 a, .int .i64 b, .int .i64 c, .int .i64 d, .int .i64 e, .int .i64 f] 26)) (new_block (.cells #[.int .i64 a', .int .i64 b', .int .i64 c', .int .i64 d', .int .i64 e', .int .i64 f'] 26)))
  have p2 := Lib.hid (blk_new1 w (.cells #[.int .i64 a, .int .i64 b, .int .i64 c, .int .i64 d, .int .i64 e, .int .i64 f] 26) (.cells #[.int .i64 a', .int .i64 b', .int .i64 c', .int .i64 d', .int .i64 e', .int .i64 f'] 26))
  go_wp2_with fail
  with_reducible refine (V1.out _).mono ?_
  rintro r w1 ⟨rfl, hb⟩
  replace p2 := Lib.hid (blk_b hb p2.out)
  replace hA := Lib.hid (Buf.then_ hA.out hb)
  clear hb
  obtain ⟨q1, q2, q3, q4, q5, q6⟩ := cells6 p2.out
  go_wp2_with fail
  with_reducible refine (V2.out _).mono ?_
  rintro r w2 ⟨rfl, hb⟩
  replace hA := Lib.hid (Buf.then_ hA.out hb)
  clear hb
  go_wp2_with fail
  go_ret
  exact ⟨rfl, hA.out⟩
end Geo
end Go.Proofs.Ytldgihlhioeipaa

/- The reference of layer 24: Valid, square. -/
namespace Go.Proofs.Ytldgihlhioeipaa
open Go.RowKit
namespace Geo
set_option maxHeartbeats 1000000 in
theorem rvalid_any (x y z : Int) (w : World) :
    Calls Try.prog 58 #[.agg #[.int .i64 x, .int .i64 y, .int .i64 z]] w fun e w' => e = .returned (.bool (pvB x y z)) ∧ Below w.heap.size w w' := by
  have hW := Lib.hid (new_block (w := w) (.cells #[.int .i64 x, .int .i64 y, .int .i64 z] 24))
  obtain ⟨c1, c2, c3, _, _, _⟩ := cells3 (blk_new w (.cells #[.int .i64 x, .int .i64 y, .int .i64 z] 24))
  cases h : pvB x y z with
  | true =>
    obtain ⟨x0, x1, y0, y1, z0, z1⟩ := pvB_yes h
    clear h
    go_enter Try.func58, Try.ntmps58
    go_wp2
    go_ret
    exact ⟨rfl, hW.out⟩
  | false =>
    have ho : x < -1048576 ∨ (-1048576 ≤ x ∧ 1048576 < x) ∨ (-1048576 ≤ x ∧ x ≤ 1048576 ∧ y < -1048576) ∨ (-1048576 ≤ x ∧ x ≤ 1048576 ∧ -1048576 ≤ y ∧ 1048576 < y) ∨ (-1048576 ≤ x ∧ x ≤ 1048576 ∧ -1048576 ≤ y ∧ y ≤ 1048576 ∧ z < -16384) ∨ (-1048576 ≤ x ∧ x ≤ 1048576 ∧ -1048576 ≤ y ∧ y ≤ 1048576 ∧ -16384 ≤ z ∧ 1048576 < z) := by
      simp only [pvB, decide_eq_false_iff_not] at h; omega
    clear h
    rcases ho with h | ⟨h1, h⟩ | ⟨h1, h2, h⟩ | ⟨h1, h2, h3, h⟩ | ⟨h1, h2, h3, h4, h⟩ | ⟨h1, h2, h3, h4, h5, h⟩
    all_goals
      go_enter Try.func58, Try.ntmps58
      go_wp2
      go_ret
      first
        | exact ⟨rfl, hW.out⟩
        | exact ⟨by show Ending.returned (.bool (decide (z ≤ 1048576))) = _; rw [decide_eq_false (by omega)], hW.out⟩
theorem rsq_any (x : Int) (w : World) (h0 : -2097152 ≤ x) (h1 : x ≤ 2097152) : Calls Try.prog 90 #[.int .i64 x] w fun e w' => e = .returned (.int .i64 (x * x)) ∧ w' = w := by
  obtain ⟨s0, s1⟩ := sq_bd h0 h1
  go_enter Try.func90, Try.ntmps90
  go_wp2
  go_ret
  exact ⟨rfl, rfl⟩
end Geo
end Go.Proofs.Ytldgihlhioeipaa

/- The reference of layer 24 at any boxes. -/
set_option linter.unusedVariables false
set_option linter.unusedSimpArgs false
namespace Go.Proofs.Ytldgihlhioeipaa
open Go.RowKit
namespace Geo
set_option maxHeartbeats 8000000 in
set_option maxRecDepth 100000 in
theorem rvb_0 (a b c d e f : Int) (k1 : pvB a b c = false) (w : World) :
    Calls Try.prog 36 #[.agg #[.int .i64 a, .int .i64 b, .int .i64 c, .int .i64 d, .int .i64 e, .int .i64 f]] w fun r w' => r = .returned (.bool false) ∧ Below w.heap.size w w' := by
  have V1 := Lib.hid fun w => rvalid_any a b c w
  rw [k1] at V1
  clear k1
  have p1 := Lib.hid (blk_new w (.cells #[.int .i64 a, .int .i64 b, .int .i64 c, .int .i64 d, .int .i64 e, .int .i64 f] 26))
  have hA := Lib.hid (new_block (w := w) (.cells #[.int .i64 a, .int .i64 b, .int .i64 c, .int .i64 d, .int .i64 e, .int .i64 f] 26))
  go_enter Try.func36, Try.ntmps36
  go_wp2_with fail
  with_reducible refine (V1.out _).mono ?_
  rintro r w1 ⟨rfl, hb⟩
  replace p1 := Lib.hid (blk_b hb p1.out)
  replace hA := Lib.hid (Buf.then_ hA.out hb)
  clear hb
  obtain ⟨u1, u2, u3, u4, u5, u6⟩ := cells6 p1.out
  go_wp2_with fail
  go_ret
  exact ⟨rfl, hA.out⟩
set_option maxHeartbeats 8000000 in
set_option maxRecDepth 100000 in
theorem rvb_1 (a b c d e f : Int) (k1 : pvB a b c = true) (k2 : pvB d e f = false) (w : World) :
    Calls Try.prog 36 #[.agg #[.int .i64 a, .int .i64 b, .int .i64 c, .int .i64 d, .int .i64 e, .int .i64 f]] w fun r w' => r = .returned (.bool false) ∧ Below w.heap.size w w' := by
  have V1 := Lib.hid fun w => rvalid_any a b c w
  rw [k1] at V1
  have V2 := Lib.hid fun w => rvalid_any d e f w
  rw [k2] at V2
  clear k1 k2
  have p1 := Lib.hid (blk_new w (.cells #[.int .i64 a, .int .i64 b, .int .i64 c, .int .i64 d, .int .i64 e, .int .i64 f] 26))
  have hA := Lib.hid (new_block (w := w) (.cells #[.int .i64 a, .int .i64 b, .int .i64 c, .int .i64 d, .int .i64 e, .int .i64 f] 26))
  go_enter Try.func36, Try.ntmps36
  go_wp2_with fail
  with_reducible refine (V1.out _).mono ?_
  rintro r w1 ⟨rfl, hb⟩
  replace p1 := Lib.hid (blk_b hb p1.out)
  replace hA := Lib.hid (Buf.then_ hA.out hb)
  clear hb
  obtain ⟨u1, u2, u3, u4, u5, u6⟩ := cells6 p1.out
  go_wp2_with fail
  with_reducible refine (V2.out _).mono ?_
  rintro r w2 ⟨rfl, hb⟩
  replace p1 := Lib.hid (blk_b hb p1.out)
  replace hA := Lib.hid (Buf.then_ hA.out hb)
  clear hb
  clear u1 u2 u3 u4 u5 u6
  obtain ⟨u1, u2, u3, u4, u5, u6⟩ := cells6 p1.out
  go_wp2_with fail
  go_ret
  exact ⟨rfl, hA.out⟩
set_option maxHeartbeats 8000000 in
set_option maxRecDepth 100000 in
theorem rvb_2 (a b c d e f : Int) (k1 : pvB a b c = true) (k2 : pvB d e f = true) (hx : d < a) (w : World) :
    Calls Try.prog 36 #[.agg #[.int .i64 a, .int .i64 b, .int .i64 c, .int .i64 d, .int .i64 e, .int .i64 f]] w fun r w' => r = .returned (.bool false) ∧ Below w.heap.size w w' := by
  have V1 := Lib.hid fun w => rvalid_any a b c w
  rw [k1] at V1
  have V2 := Lib.hid fun w => rvalid_any d e f w
  rw [k2] at V2
  clear k1 k2
  have p1 := Lib.hid (blk_new w (.cells #[.int .i64 a, .int .i64 b, .int .i64 c, .int .i64 d, .int .i64 e, .int .i64 f] 26))
  have hA := Lib.hid (new_block (w := w) (.cells #[.int .i64 a, .int .i64 b, .int .i64 c, .int .i64 d, .int .i64 e, .int .i64 f] 26))
  go_enter Try.func36, Try.ntmps36
  go_wp2_with fail
  with_reducible refine (V1.out _).mono ?_
  rintro r w1 ⟨rfl, hb⟩
  replace p1 := Lib.hid (blk_b hb p1.out)
  replace hA := Lib.hid (Buf.then_ hA.out hb)
  clear hb
  obtain ⟨u1, u2, u3, u4, u5, u6⟩ := cells6 p1.out
  go_wp2_with fail
  with_reducible refine (V2.out _).mono ?_
  rintro r w2 ⟨rfl, hb⟩
  replace p1 := Lib.hid (blk_b hb p1.out)
  replace hA := Lib.hid (Buf.then_ hA.out hb)
  clear hb
  clear u1 u2 u3 u4 u5 u6
  obtain ⟨u1, u2, u3, u4, u5, u6⟩ := cells6 p1.out
  go_wp2_with fail
  go_ret
  exact ⟨rfl, hA.out⟩
set_option maxHeartbeats 8000000 in
set_option maxRecDepth 100000 in
theorem rvb_3 (a b c d e f : Int) (k1 : pvB a b c = true) (k2 : pvB d e f = true) (hx : a ≤ d) (hy : e < b) (w : World) :
    Calls Try.prog 36 #[.agg #[.int .i64 a, .int .i64 b, .int .i64 c, .int .i64 d, .int .i64 e, .int .i64 f]] w fun r w' => r = .returned (.bool false) ∧ Below w.heap.size w w' := by
  have V1 := Lib.hid fun w => rvalid_any a b c w
  rw [k1] at V1
  have V2 := Lib.hid fun w => rvalid_any d e f w
  rw [k2] at V2
  clear k1 k2
  have p1 := Lib.hid (blk_new w (.cells #[.int .i64 a, .int .i64 b, .int .i64 c, .int .i64 d, .int .i64 e, .int .i64 f] 26))
  have hA := Lib.hid (new_block (w := w) (.cells #[.int .i64 a, .int .i64 b, .int .i64 c, .int .i64 d, .int .i64 e, .int .i64 f] 26))
  go_enter Try.func36, Try.ntmps36
  go_wp2_with fail
  with_reducible refine (V1.out _).mono ?_
  rintro r w1 ⟨rfl, hb⟩
  replace p1 := Lib.hid (blk_b hb p1.out)
  replace hA := Lib.hid (Buf.then_ hA.out hb)
  clear hb
  obtain ⟨u1, u2, u3, u4, u5, u6⟩ := cells6 p1.out
  go_wp2_with fail
  with_reducible refine (V2.out _).mono ?_
  rintro r w2 ⟨rfl, hb⟩
  replace p1 := Lib.hid (blk_b hb p1.out)
  replace hA := Lib.hid (Buf.then_ hA.out hb)
  clear hb
  clear u1 u2 u3 u4 u5 u6
  obtain ⟨u1, u2, u3, u4, u5, u6⟩ := cells6 p1.out
  go_wp2_with fail
  go_ret
  exact ⟨rfl, hA.out⟩
set_option maxHeartbeats 8000000 in
set_option maxRecDepth 100000 in
theorem rvb_4 (a b c d e f : Int) (k1 : pvB a b c = true) (k2 : pvB d e f = true) (hx : a ≤ d) (hy : b ≤ e) (w : World) :
    Calls Try.prog 36 #[.agg #[.int .i64 a, .int .i64 b, .int .i64 c, .int .i64 d, .int .i64 e, .int .i64 f]] w fun r w' => r = .returned (.bool (decide (c ≤ f))) ∧ Below w.heap.size w w' := by
  have V1 := Lib.hid fun w => rvalid_any a b c w
  rw [k1] at V1
  have V2 := Lib.hid fun w => rvalid_any d e f w
  rw [k2] at V2
  clear k1 k2
  have p1 := Lib.hid (blk_new w (.cells #[.int .i64 a, .int .i64 b, .int .i64 c, .int .i64 d, .int .i64 e, .int .i64 f] 26))
  have hA := Lib.hid (new_block (w := w) (.cells #[.int .i64 a, .int .i64 b, .int .i64 c, .int .i64 d, .int .i64 e, .int .i64 f] 26))
  go_enter Try.func36, Try.ntmps36
  go_wp2_with fail
  with_reducible refine (V1.out _).mono ?_
  rintro r w1 ⟨rfl, hb⟩
  replace p1 := Lib.hid (blk_b hb p1.out)
  replace hA := Lib.hid (Buf.then_ hA.out hb)
  clear hb
  obtain ⟨u1, u2, u3, u4, u5, u6⟩ := cells6 p1.out
  go_wp2_with fail
  with_reducible refine (V2.out _).mono ?_
  rintro r w2 ⟨rfl, hb⟩
  replace p1 := Lib.hid (blk_b hb p1.out)
  replace hA := Lib.hid (Buf.then_ hA.out hb)
  clear hb
  clear u1 u2 u3 u4 u5 u6
  obtain ⟨u1, u2, u3, u4, u5, u6⟩ := cells6 p1.out
  go_wp2_with fail
  go_ret
  exact ⟨rfl, hA.out⟩
theorem rvalidBox_any (a b c d e f : Int) (w : World) :
    Calls Try.prog 36 #[.agg #[.int .i64 a, .int .i64 b, .int .i64 c, .int .i64 d, .int .i64 e, .int .i64 f]] w fun r w' => r = .returned (.bool (bvB a b c d e f)) ∧ Below w.heap.size w w' := by
  have e0 : bvB a b c d e f = (pvB a b c && (pvB d e f && (decide (a ≤ d) && (decide (b ≤ e) && decide (c ≤ f))))) := by
    unfold bvB
    cases pvB a b c <;> cases pvB d e f <;> simp
  rw [e0]
  cases k1 : pvB a b c with
  | false => exact rvb_0 a b c d e f k1 w
  | true =>
    cases k2 : pvB d e f with
    | false => exact rvb_1 a b c d e f k1 k2 w
    | true =>
      rw [Bool.true_and, Bool.true_and]
      by_cases hx : a ≤ d
      · rw [decide_eq_true hx, Bool.true_and]
        by_cases hy : b ≤ e
        · rw [decide_eq_true hy, Bool.true_and]
          exact rvb_4 a b c d e f k1 k2 hx hy w
        · rw [decide_eq_false hy, Bool.false_and]
          exact rvb_3 a b c d e f k1 k2 hx (by omega) w
      · rw [decide_eq_false hx, Bool.false_and]
        exact rvb_2 a b c d e f k1 k2 (by omega) w
set_option maxRecDepth 100000 in
theorem rnear_any (lo hi x : Int) (w : World) (l0 : -1048576 ≤ lo) (l1 : lo ≤ 1048576) (h0 : -1048576 ≤ hi) (h1 : hi ≤ 1048576) (x0 : -1048576 ≤ x) (x1 : x ≤ 1048576) (m : Int) (hm : m = max (lo - x) (max (x - hi) 0)) : Calls Try.prog 91 #[.int .i64 lo, .int .i64 hi, .int .i64 x] w fun e w' => e = .returned (.int .i64 m) ∧ w' = w := by
  have e : max 0 (max (lo - x) (x - hi)) = m := by omega
  replace e := Lib.hid e
  clear hm
  go_enter Try.func91, Try.ntmps91
  go_wp2
  go_ret
  exact ⟨congrArg (fun z => Ending.returned (Value.int .i64 z)) e.out, rfl⟩
set_option maxRecDepth 100000 in
theorem rfar_any (lo hi x : Int) (w : World) (l0 : -1048576 ≤ lo) (l1 : lo ≤ 1048576) (h0 : -1048576 ≤ hi) (h1 : hi ≤ 1048576) (x0 : -1048576 ≤ x) (x1 : x ≤ 1048576) (m : Int) (hm : m = max (hi - x) (x - lo)) : Calls Try.prog 92 #[.int .i64 lo, .int .i64 hi, .int .i64 x] w fun e w' => e = .returned (.int .i64 m) ∧ w' = w := by
  have e : max (x - lo) (hi - x) = m := by omega
  replace e := Lib.hid e
  clear hm
  go_enter Try.func92, Try.ntmps92
  go_wp2
  go_ret
  exact ⟨congrArg (fun z => Ending.returned (Value.int .i64 z)) e.out, rfl⟩
set_option maxRecDepth 100000 in
theorem rmiddle_yes (x y : Int) (w : World) (x0 : -1048576 ≤ x) (x1 : x ≤ y) (y1 : y ≤ 1048576) :
    Calls Try.prog 62 #[.int .i64 x, .int .i64 y] w fun e w' => e = .returned (.int .i64 (x + (y - x) / 2)) ∧ w' = w := by
  go_enter Try.func62, Try.ntmps62
  go_wp2
  go_ret
  exact ⟨rfl, rfl⟩
set_option maxHeartbeats 8000000 in
set_option maxRecDepth 100000 in
theorem rnear_3 (a b c d e f x y z : Int) (k1 : bvB a b c d e f = true) (k2 : pvB x y z = true) (w : World) :
    Calls Try.prog 76 #[.agg #[.int .i64 a, .int .i64 b, .int .i64 c, .int .i64 d, .int .i64 e, .int .i64 f], .agg #[.int .i64 x, .int .i64 y, .int .i64 z]] w fun r w' => r = .returned (.int .i64 (near3 a b c d e f x y z)) ∧ Below w.heap.size w w' := by
  have V1 := Lib.hid fun w => rvalidBox_any a b c d e f w
  rw [k1] at V1
  have V2 := Lib.hid fun w => rvalid_any x y z w
  rw [k2] at V2
  obtain ⟨⟨ax0, ax1, ay0, ay1, az0, az1⟩, ⟨dx0, dx1, dy0, dy1, dz0, dz1⟩, hx, hy, hz⟩ := bvB_yes k1
  obtain ⟨px0, px1, py0, py1, pz0, pz1⟩ := pvB_yes k2
  unfold near3
  obtain ⟨m0, hm0⟩ : ∃ m, m = max (a - x) (max (x - d) 0) := ⟨_, rfl⟩
  obtain ⟨m1, hm1⟩ : ∃ m, m = max (b - y) (max (y - e) 0) := ⟨_, rfl⟩
  obtain ⟨m2, hm2⟩ : ∃ m, m = max (c - z) (max (z - f) 0) := ⟨_, rfl⟩
  rw [← hm0, ← hm1, ← hm2]
  have N0 := Lib.hid fun w => rnear_any a d x w (by omega) (by omega) (by omega) (by omega) (by omega) (by omega) m0 hm0
  have S0 := Lib.hid fun w => rsq_any m0 w (by omega) (by omega)
  obtain ⟨s0, t0⟩ := sq_bd (show -2097152 ≤ m0 by omega) (show m0 ≤ 2097152 by omega)
  have N1 := Lib.hid fun w => rnear_any b e y w (by omega) (by omega) (by omega) (by omega) (by omega) (by omega) m1 hm1
  have S1 := Lib.hid fun w => rsq_any m1 w (by omega) (by omega)
  obtain ⟨s1, t1⟩ := sq_bd (show -2097152 ≤ m1 by omega) (show m1 ≤ 2097152 by omega)
  have N2 := Lib.hid fun w => rnear_any c f z w (by omega) (by omega) (by omega) (by omega) (by omega) (by omega) m2 hm2
  have S2 := Lib.hid fun w => rsq_any m2 w (by omega) (by omega)
  obtain ⟨s2, t2⟩ := sq_bd (show -2097152 ≤ m2 by omega) (show m2 ≤ 2097152 by omega)
  clear hm0 hm1 hm2
  clear k1 k2
  have p1 := Lib.hid (blk_alloc (blk_new w (.cells #[.int .i64 a, .int .i64 b, .int .i64 c, .int .i64 d, .int .i64 e, .int .i64 f] 26)) (.cells #[.int .i64 x, .int .i64 y, .int .i64 z] 24))
  have p2 := Lib.hid (blk_new1 w (.cells #[.int .i64 a, .int .i64 b, .int .i64 c, .int .i64 d, .int .i64 e, .int .i64 f] 26) (.cells #[.int .i64 x, .int .i64 y, .int .i64 z] 24))
  have hA := Lib.hid (Buf.then_ (new_block (w := w) (.cells #[.int .i64 a, .int .i64 b, .int .i64 c, .int .i64 d, .int .i64 e, .int .i64 f] 26)) (new_block (.cells #[.int .i64 x, .int .i64 y, .int .i64 z] 24)))
  go_enter Try.func76, Try.ntmps76
  go_wp2_with fail
  with_reducible refine (V1.out _).mono ?_
  rintro r w1 ⟨rfl, hb⟩
  replace p1 := Lib.hid (blk_b hb p1.out)
  replace p2 := Lib.hid (blk_b hb p2.out)
  replace hA := Lib.hid (Buf.then_ hA.out hb)
  clear hb
  obtain ⟨q1, q2, q3, _, _, _⟩ := cells3 p2.out
  go_wp2_with fail
  with_reducible refine (V2.out _).mono ?_
  rintro r w2 ⟨rfl, hb⟩
  replace p1 := Lib.hid (blk_b hb p1.out)
  replace p2 := Lib.hid (blk_b hb p2.out)
  replace hA := Lib.hid (Buf.then_ hA.out hb)
  clear hb
  clear q1 q2 q3
  obtain ⟨u1, u2, u3, u4, u5, u6⟩ := cells6 p1.out
  obtain ⟨q1, q2, q3, _, _, _⟩ := cells3 p2.out
  go_wp2_with fail
  go_quiet (first | (go_at_call 91; with_reducible exact Calls.quiet_of_same (N0.out _)) | (go_at_call 91; with_reducible exact Calls.quiet_of_same (N1.out _)) | (go_at_call 91; with_reducible exact Calls.quiet_of_same (N2.out _)) | (go_at_call 90; with_reducible exact Calls.quiet_of_same (S0.out _)) | (go_at_call 90; with_reducible exact Calls.quiet_of_same (S1.out _)) | (go_at_call 90; with_reducible exact Calls.quiet_of_same (S2.out _)))
  go_wp2_with fail
  go_ret
  exact ⟨rfl, Buf.below_drewN hA.out _⟩
set_option maxHeartbeats 8000000 in
set_option maxRecDepth 100000 in
theorem rfar_3 (a b c d e f x y z : Int) (k1 : bvB a b c d e f = true) (k2 : pvB x y z = true) (w : World) :
    Calls Try.prog 77 #[.agg #[.int .i64 a, .int .i64 b, .int .i64 c, .int .i64 d, .int .i64 e, .int .i64 f], .agg #[.int .i64 x, .int .i64 y, .int .i64 z]] w fun r w' => r = .returned (.int .i64 (far3 a b c d e f x y z)) ∧ Below w.heap.size w w' := by
  have V1 := Lib.hid fun w => rvalidBox_any a b c d e f w
  rw [k1] at V1
  have V2 := Lib.hid fun w => rvalid_any x y z w
  rw [k2] at V2
  obtain ⟨⟨ax0, ax1, ay0, ay1, az0, az1⟩, ⟨dx0, dx1, dy0, dy1, dz0, dz1⟩, hx, hy, hz⟩ := bvB_yes k1
  obtain ⟨px0, px1, py0, py1, pz0, pz1⟩ := pvB_yes k2
  unfold far3
  obtain ⟨m0, hm0⟩ : ∃ m, m = max (d - x) (x - a) := ⟨_, rfl⟩
  obtain ⟨m1, hm1⟩ : ∃ m, m = max (e - y) (y - b) := ⟨_, rfl⟩
  obtain ⟨m2, hm2⟩ : ∃ m, m = max (f - z) (z - c) := ⟨_, rfl⟩
  rw [← hm0, ← hm1, ← hm2]
  have N0 := Lib.hid fun w => rfar_any a d x w (by omega) (by omega) (by omega) (by omega) (by omega) (by omega) m0 hm0
  have S0 := Lib.hid fun w => rsq_any m0 w (by omega) (by omega)
  obtain ⟨s0, t0⟩ := sq_bd (show -2097152 ≤ m0 by omega) (show m0 ≤ 2097152 by omega)
  have N1 := Lib.hid fun w => rfar_any b e y w (by omega) (by omega) (by omega) (by omega) (by omega) (by omega) m1 hm1
  have S1 := Lib.hid fun w => rsq_any m1 w (by omega) (by omega)
  obtain ⟨s1, t1⟩ := sq_bd (show -2097152 ≤ m1 by omega) (show m1 ≤ 2097152 by omega)
  have N2 := Lib.hid fun w => rfar_any c f z w (by omega) (by omega) (by omega) (by omega) (by omega) (by omega) m2 hm2
  have S2 := Lib.hid fun w => rsq_any m2 w (by omega) (by omega)
  obtain ⟨s2, t2⟩ := sq_bd (show -2097152 ≤ m2 by omega) (show m2 ≤ 2097152 by omega)
  clear hm0 hm1 hm2
  clear k1 k2
  have p1 := Lib.hid (blk_alloc (blk_new w (.cells #[.int .i64 a, .int .i64 b, .int .i64 c, .int .i64 d, .int .i64 e, .int .i64 f] 26)) (.cells #[.int .i64 x, .int .i64 y, .int .i64 z] 24))
  have p2 := Lib.hid (blk_new1 w (.cells #[.int .i64 a, .int .i64 b, .int .i64 c, .int .i64 d, .int .i64 e, .int .i64 f] 26) (.cells #[.int .i64 x, .int .i64 y, .int .i64 z] 24))
  have hA := Lib.hid (Buf.then_ (new_block (w := w) (.cells #[.int .i64 a, .int .i64 b, .int .i64 c, .int .i64 d, .int .i64 e, .int .i64 f] 26)) (new_block (.cells #[.int .i64 x, .int .i64 y, .int .i64 z] 24)))
  go_enter Try.func77, Try.ntmps77
  go_wp2_with fail
  with_reducible refine (V1.out _).mono ?_
  rintro r w1 ⟨rfl, hb⟩
  replace p1 := Lib.hid (blk_b hb p1.out)
  replace p2 := Lib.hid (blk_b hb p2.out)
  replace hA := Lib.hid (Buf.then_ hA.out hb)
  clear hb
  obtain ⟨q1, q2, q3, _, _, _⟩ := cells3 p2.out
  go_wp2_with fail
  with_reducible refine (V2.out _).mono ?_
  rintro r w2 ⟨rfl, hb⟩
  replace p1 := Lib.hid (blk_b hb p1.out)
  replace p2 := Lib.hid (blk_b hb p2.out)
  replace hA := Lib.hid (Buf.then_ hA.out hb)
  clear hb
  clear q1 q2 q3
  obtain ⟨u1, u2, u3, u4, u5, u6⟩ := cells6 p1.out
  obtain ⟨q1, q2, q3, _, _, _⟩ := cells3 p2.out
  go_wp2_with fail
  go_quiet (first | (go_at_call 92; with_reducible exact Calls.quiet_of_same (N0.out _)) | (go_at_call 92; with_reducible exact Calls.quiet_of_same (N1.out _)) | (go_at_call 92; with_reducible exact Calls.quiet_of_same (N2.out _)) | (go_at_call 90; with_reducible exact Calls.quiet_of_same (S0.out _)) | (go_at_call 90; with_reducible exact Calls.quiet_of_same (S1.out _)) | (go_at_call 90; with_reducible exact Calls.quiet_of_same (S2.out _)))
  go_wp2_with fail
  go_ret
  exact ⟨rfl, Buf.below_drewN hA.out _⟩
set_option maxHeartbeats 8000000 in
set_option maxRecDepth 100000 in
theorem rpoints_2 (a b c d e f : Int) (k1 : bvB a b c d e f = true) (w : World) :
    Calls Try.prog 64 #[.agg #[.int .i64 a, .int .i64 b, .int .i64 c, .int .i64 d, .int .i64 e, .int .i64 f]] w fun r w' => r = .returned (.int .i64 (pts a b c d e f)) ∧ Below w.heap.size w w' := by
  have V1 := Lib.hid fun w => rvalidBox_any a b c d e f w
  rw [k1] at V1
  obtain ⟨⟨l1, l2⟩, l3, l4⟩ := pts_bd (bvB_yes k1)
  obtain ⟨⟨ax0, ax1, ay0, ay1, az0, az1⟩, ⟨dx0, dx1, dy0, dy1, dz0, dz1⟩, hx, hy, hz⟩ := bvB_yes k1
  unfold pts
  clear k1
  have p1 := Lib.hid (blk_new w (.cells #[.int .i64 a, .int .i64 b, .int .i64 c, .int .i64 d, .int .i64 e, .int .i64 f] 26))
  have hA := Lib.hid (new_block (w := w) (.cells #[.int .i64 a, .int .i64 b, .int .i64 c, .int .i64 d, .int .i64 e, .int .i64 f] 26))
  go_enter Try.func64, Try.ntmps64
  go_wp2_with fail
  with_reducible refine (V1.out _).mono ?_
  rintro r w1 ⟨rfl, hb⟩
  replace p1 := Lib.hid (blk_b hb p1.out)
  replace hA := Lib.hid (Buf.then_ hA.out hb)
  clear hb
  obtain ⟨u1, u2, u3, u4, u5, u6⟩ := cells6 p1.out
  go_wp2_with fail
  go_ret
  exact ⟨rfl, hA.out⟩
end Geo
end Go.Proofs.Ytldgihlhioeipaa

/- Package geometry at any boxes: Center, Split, Hull, Within, Contains. -/
set_option linter.unusedVariables false
set_option linter.unusedSimpArgs false
namespace Go.Proofs.Ytldgihlhioeipaa
open Go.RowKit
namespace Geo
def wiV (a b c d e f a' b' c' d' e' f' : Int) : Bool := bvB a b c d e f && (bvB a' b' c' d' e' f' && wiB a b c d e f a' b' c' d' e' f')
theorem within_all (a b c d e f a' b' c' d' e' f' : Int) (w : World) :
    Calls Try.prog 51 #[.agg #[.int .i64 a, .int .i64 b, .int .i64 c, .int .i64 d, .int .i64 e, .int .i64 f], .agg #[.int .i64 a', .int .i64 b', .int .i64 c', .int .i64 d', .int .i64 e', .int .i64 f']] w fun r w' => r = .returned (.bool (wiV a b c d e f a' b' c' d' e' f')) ∧ Below w.heap.size w w' := by
  unfold wiV
  cases k1 : bvB a b c d e f with
  | false => exact withinv_no1 a b c d e f a' b' c' d' e' f' k1 w
  | true =>
    cases k2 : bvB a' b' c' d' e' f' with
    | false => exact withinv_no2 a b c d e f a' b' c' d' e' f' k1 k2 w
    | true => exact within_any a b c d e f a' b' c' d' e' f' (bvB_yes k1) (bvB_yes k2) w
/-- Whether a box contains a position. -/
def coV (a b c d e f x y z : Int) : Bool := bvB a b c d e f && decide (a ≤ x ∧ x ≤ d ∧ b ≤ y ∧ y ≤ e ∧ c ≤ z ∧ z ≤ f)
theorem pt_co {a b c d e f x y z : Int} (h : bvB a b c d e f = true) (k : a ≤ x ∧ x ≤ d ∧ b ≤ y ∧ y ≤ e ∧ c ≤ z ∧ z ≤ f) : bvB x y z x y z = true := by
  obtain ⟨⟨ax0, ax1, ay0, ay1, az0, az1⟩, ⟨dx0, dx1, dy0, dy1, dz0, dz1⟩, hx, hy, hz⟩ := bvB_yes h
  exact bvB_of ⟨⟨by omega, by omega, by omega, by omega, by omega, by omega⟩, ⟨by omega, by omega, by omega, by omega, by omega, by omega⟩, by omega, by omega, by omega⟩
theorem wi_pt (a b c d e f x y z : Int) : wiV x y z x y z a b c d e f = coV a b c d e f x y z := by
  unfold wiV coV
  cases h : bvB a b c d e f with
  | false => simp
  | true =>
    have eW : wiB x y z x y z a b c d e f = decide (a ≤ x ∧ x ≤ d ∧ b ≤ y ∧ y ≤ e ∧ c ≤ z ∧ z ≤ f) := rfl
    rw [Bool.true_and, Bool.true_and, eW]
    by_cases k : a ≤ x ∧ x ≤ d ∧ b ≤ y ∧ y ≤ e ∧ c ≤ z ∧ z ≤ f
    · rw [pt_co h k, Bool.true_and]
    · rw [decide_eq_false k, Bool.and_false]
theorem wi_co (a b c d e f a' b' c' d' e' f' : Int) : wiV a b c d e f a' b' c' d' e' f' = (bvB a b c d e f && (coV a' b' c' d' e' f' a b c && coV a' b' c' d' e' f' d e f)) := by
  unfold wiV coV wiB
  cases h : bvB a b c d e f with
  | false => simp
  | true =>
    obtain ⟨⟨ax0, ax1, ay0, ay1, az0, az1⟩, ⟨dx0, dx1, dy0, dy1, dz0, dz1⟩, hx, hy, hz⟩ := bvB_yes h
    cases bvB a' b' c' d' e' f' with
    | false => simp
    | true =>
      simp only [Bool.true_and]
      rw [Bool.eq_iff_iff]
      simp only [Bool.and_eq_true, decide_eq_true_eq]
      constructor
      · intro k; omega
      · intro k; omega
end Geo
end Go.Proofs.Ytldgihlhioeipaa

/- The reference of layer 24 at any boxes: Center, Contains, Within, Hull, Split. -/
set_option linter.unusedVariables false
set_option linter.unusedSimpArgs false
namespace Go.Proofs.Ytldgihlhioeipaa
open Go.RowKit
namespace Geo
set_option maxHeartbeats 8000000 in
set_option maxRecDepth 100000 in
theorem rcenter_2 (a b c d e f : Int) (k1 : bvB a b c d e f = true) (w : World) :
    Calls Try.prog 42 #[.agg #[.int .i64 a, .int .i64 b, .int .i64 c, .int .i64 d, .int .i64 e, .int .i64 f]] w fun r w' => r = .returned (.agg #[.int .i64 (a + (d - a) / 2), .int .i64 (b + (e - b) / 2), .int .i64 (c + (f - c) / 2)]) ∧ Below w.heap.size w w' := by
  have V1 := Lib.hid fun w => rvalidBox_any a b c d e f w
  rw [k1] at V1
  obtain ⟨⟨ax0, ax1, ay0, ay1, az0, az1⟩, ⟨dx0, dx1, dy0, dy1, dz0, dz1⟩, hx, hy, hz⟩ := bvB_yes k1
  have M0 := Lib.hid fun w => rmiddle_yes a d w (by omega) (by omega) (by omega)
  have M1 := Lib.hid fun w => rmiddle_yes b e w (by omega) (by omega) (by omega)
  have M2 := Lib.hid fun w => rmiddle_yes c f w (by omega) (by omega) (by omega)
  clear k1
  generalize a + (d - a) / 2 = m0 at *
  generalize b + (e - b) / 2 = m1 at *
  generalize c + (f - c) / 2 = m2 at *
  have p1 := Lib.hid (blk_alloc (blk_new w (.cells #[.int .i64 a, .int .i64 b, .int .i64 c, .int .i64 d, .int .i64 e, .int .i64 f] 26)) (.cells #[.int .i64 0, .int .i64 0, .int .i64 0] 24))
  have p2 := Lib.hid (blk_new1 w (.cells #[.int .i64 a, .int .i64 b, .int .i64 c, .int .i64 d, .int .i64 e, .int .i64 f] 26) (.cells #[.int .i64 0, .int .i64 0, .int .i64 0] 24))
  have hA := Lib.hid (Buf.then_ (new_block (w := w) (.cells #[.int .i64 a, .int .i64 b, .int .i64 c, .int .i64 d, .int .i64 e, .int .i64 f] 26)) (new_block (.cells #[.int .i64 0, .int .i64 0, .int .i64 0] 24)))
  go_enter Try.func42, Try.ntmps42
  go_wp2_with fail
  with_reducible refine (V1.out _).mono ?_
  rintro r w1 ⟨rfl, hb⟩
  replace p1 := Lib.hid (blk_b hb p1.out)
  replace p2 := Lib.hid (blk_b hb p2.out)
  replace hA := Lib.hid (Buf.then_ hA.out hb)
  clear hb
  obtain ⟨u1, u2, u3, u4, u5, u6⟩ := cells6 p1.out
  obtain ⟨e1, e2, e3, e4, e5, e6⟩ := cells3 p2.out
  go_upto_region 3 with fail
  refine wp_region_noPanic ?_
  refine wp_region_any (by kernel_rfl) ?_
  refine Inv.wpAny_inv (fun k => k == 22) [7, 8, 9, 10, 11, 12, 13, 14, 15, 16, 17, 18, 19, 20, 21, 22, 23, 24, 25, 26, 27, 28] (fun w' => Below w1.heap.size w1 w') (fun _ w1 w2 => Below w1.heap.size w1 w2) (fun k => ([fun v_ w_ => v_ = .pointer (some ⟨w.heap.size, 0, none⟩), fun v_ w_ => v_ = .pointer (some ⟨w.heap.size, 0, none⟩), fun v_ w_ => v_ = .int .i64 a, fun v_ w_ => v_ = .pointer (some ⟨w.heap.size, 3, none⟩), fun v_ w_ => v_ = .pointer (some ⟨w.heap.size, 3, none⟩), fun v_ w_ => v_ = .int .i64 d, fun v_ w_ => v_ = .int .i64 m0, fun v_ w_ => v_ = .pointer (some ⟨w.heap.size, 0, none⟩), fun v_ w_ => v_ = .pointer (some ⟨w.heap.size, 1, none⟩), fun v_ w_ => v_ = .int .i64 b, fun v_ w_ => v_ = .pointer (some ⟨w.heap.size, 3, none⟩), fun v_ w_ => v_ = .pointer (some ⟨w.heap.size, 4, none⟩), fun v_ w_ => v_ = .int .i64 e, fun v_ w_ => v_ = .int .i64 m1, fun v_ w_ => v_ = .pointer (some ⟨w.heap.size, 0, none⟩), fun v_ w_ => v_ = .pointer (some ⟨w.heap.size, 2, none⟩), fun v_ w_ => v_ = .int .i64 c, fun v_ w_ => v_ = .pointer (some ⟨w.heap.size, 3, none⟩), fun v_ w_ => v_ = .pointer (some ⟨w.heap.size, 5, none⟩), fun v_ w_ => v_ = .int .i64 f, fun v_ w_ => v_ = .int .i64 m2, fun v_ w_ => v_ = .agg #[.int .i64 m0, .int .i64 m1, .int .i64 m2], fun v_ w_ => True] : List (Value → World → Prop)).getD k (fun _ _ => True)) _ (fun σ => by simp only [Inv.putAll, List.foldl_cons, List.foldl_nil, Act.put, List.setIfInBounds_toArray, List.set_cons_zero, List.set_cons_succ]; rfl) (by kernel_rfl) (by kernel_rfl) ?_ ((Below.refl _ _).drew) ?_ ?_ 1 #[true, true, true, true, true, true, true, true, true, true, true, true, true, true, true, true, true, true, true, true, true, true, false] (by kernel_rfl) (by kernel_rfl) ?_
  · intro j k v w1 w2 hjk hv hr
    rcases k with _ | k
    · exact hv
    rcases k with _ | k
    · exact hv
    rcases k with _ | k
    · exact hv
    rcases k with _ | k
    · exact hv
    rcases k with _ | k
    · exact hv
    rcases k with _ | k
    · exact hv
    rcases k with _ | k
    · exact hv
    rcases k with _ | k
    · exact hv
    rcases k with _ | k
    · exact hv
    rcases k with _ | k
    · exact hv
    rcases k with _ | k
    · exact hv
    rcases k with _ | k
    · exact hv
    rcases k with _ | k
    · exact hv
    rcases k with _ | k
    · exact hv
    rcases k with _ | k
    · exact hv
    rcases k with _ | k
    · exact hv
    rcases k with _ | k
    · exact hv
    rcases k with _ | k
    · exact hv
    rcases k with _ | k
    · exact hv
    rcases k with _ | k
    · exact hv
    rcases k with _ | k
    · exact hv
    rcases k with _ | k
    · exact hv
    rcases k with _ | k
    · exact hv
    · exact hv
  · intro k t hl hd
    rcases k with _ | k
    · exact absurd hl (by decide +kernel)
    rcases k with _ | k
    · exact absurd hl (by decide +kernel)
    rcases k with _ | k
    · exact absurd hl (by decide +kernel)
    rcases k with _ | k
    · exact absurd hl (by decide +kernel)
    rcases k with _ | k
    · exact absurd hl (by decide +kernel)
    rcases k with _ | k
    · exact absurd hl (by decide +kernel)
    rcases k with _ | k
    · exact absurd hl (by decide +kernel)
    rcases k with _ | k
    · exact absurd hl (by decide +kernel)
    rcases k with _ | k
    · exact absurd hl (by decide +kernel)
    rcases k with _ | k
    · exact absurd hl (by decide +kernel)
    rcases k with _ | k
    · exact absurd hl (by decide +kernel)
    rcases k with _ | k
    · exact absurd hl (by decide +kernel)
    rcases k with _ | k
    · exact absurd hl (by decide +kernel)
    rcases k with _ | k
    · exact absurd hl (by decide +kernel)
    rcases k with _ | k
    · exact absurd hl (by decide +kernel)
    rcases k with _ | k
    · exact absurd hl (by decide +kernel)
    rcases k with _ | k
    · exact absurd hl (by decide +kernel)
    rcases k with _ | k
    · exact absurd hl (by decide +kernel)
    rcases k with _ | k
    · exact absurd hl (by decide +kernel)
    rcases k with _ | k
    · exact absurd hl (by decide +kernel)
    rcases k with _ | k
    · exact absurd hl (by decide +kernel)
    rcases k with _ | k
    · exact absurd hl (by decide +kernel)
    rcases k with _ | k
    · exact absurd hl (by decide +kernel)
    · simp at hd
  · show Inv.Steps _ _ _ _ _ _ _ _ [0, 1, 2, 3, 4, 5, 6, 7, 8, 9, 10, 11, 12, 13, 14, 15, 16, 17, 18, 19, 20, 21]
    refine Inv.Steps.go (by decide) (by rfl) (fun σ wx hw hd K hK => ?_) ?_
    · simp only [List.getElem_toArray, List.getElem_cons_zero, List.getElem_cons_succ, Act.put, List.setIfInBounds_toArray, List.set_cons_zero, List.set_cons_succ] at hK ⊢
      go_simp
      exact hK.out _ _ hw (Below.refl _ _) (rfl)
    refine Inv.Steps.go (by decide) (by rfl) (fun σ wx hw hd K hK => ?_) ?_
    · obtain e7 : (σ 7) = .pointer (some ⟨w.heap.size, 0, none⟩) := hd 0 (some 7) (by kernel_rfl) (by rfl)
      simp only [List.getElem_toArray, List.getElem_cons_zero, List.getElem_cons_succ, Act.put, List.setIfInBounds_toArray, List.set_cons_zero, List.set_cons_succ, e7] at hK ⊢
      go_simp
      exact hK.out _ _ hw (Below.refl _ _) (rfl)
    refine Inv.Steps.go (by decide) (by rfl) (fun σ wx hw hd K hK => ?_) ?_
    · obtain e8 : (σ 8) = .pointer (some ⟨w.heap.size, 0, none⟩) := hd 1 (some 8) (by kernel_rfl) (by rfl)
      simp only [List.getElem_toArray, List.getElem_cons_zero, List.getElem_cons_succ, Act.put, List.setIfInBounds_toArray, List.set_cons_zero, List.set_cons_succ, e8] at hK ⊢
      obtain ⟨u1, u2, u3, u4, u5, u6⟩ := cells6 (blk_b hw p1.out)
      go_simp
      exact hK.out _ _ hw (Below.refl _ _) (rfl)
    refine Inv.Steps.go (by decide) (by rfl) (fun σ wx hw hd K hK => ?_) ?_
    · simp only [List.getElem_toArray, List.getElem_cons_zero, List.getElem_cons_succ, Act.put, List.setIfInBounds_toArray, List.set_cons_zero, List.set_cons_succ] at hK ⊢
      go_simp
      exact hK.out _ _ hw (Below.refl _ _) (rfl)
    refine Inv.Steps.go (by decide) (by rfl) (fun σ wx hw hd K hK => ?_) ?_
    · obtain e10 : (σ 10) = .pointer (some ⟨w.heap.size, 3, none⟩) := hd 3 (some 10) (by kernel_rfl) (by rfl)
      simp only [List.getElem_toArray, List.getElem_cons_zero, List.getElem_cons_succ, Act.put, List.setIfInBounds_toArray, List.set_cons_zero, List.set_cons_succ, e10] at hK ⊢
      go_simp
      exact hK.out _ _ hw (Below.refl _ _) (rfl)
    refine Inv.Steps.go (by decide) (by rfl) (fun σ wx hw hd K hK => ?_) ?_
    · obtain e11 : (σ 11) = .pointer (some ⟨w.heap.size, 3, none⟩) := hd 4 (some 11) (by kernel_rfl) (by rfl)
      simp only [List.getElem_toArray, List.getElem_cons_zero, List.getElem_cons_succ, Act.put, List.setIfInBounds_toArray, List.set_cons_zero, List.set_cons_succ, e11] at hK ⊢
      obtain ⟨u1, u2, u3, u4, u5, u6⟩ := cells6 (blk_b hw p1.out)
      go_simp
      exact hK.out _ _ hw (Below.refl _ _) (rfl)
    refine Inv.Steps.go (by decide) (by rfl) (fun σ wx hw hd K hK => ?_) ?_
    · obtain e9 : (σ 9) = .int .i64 a := hd 2 (some 9) (by kernel_rfl) (by rfl)
      obtain e12 : (σ 12) = .int .i64 d := hd 5 (some 12) (by kernel_rfl) (by rfl)
      simp only [List.getElem_toArray, List.getElem_cons_zero, List.getElem_cons_succ, Act.put, List.setIfInBounds_toArray, List.set_cons_zero, List.set_cons_succ, e9, e12] at hK ⊢
      go_simp
      go_at_call 62
      refine (M0.out _).mono ?_
      rintro e_ w_ ⟨rfl, hw_⟩
      replace hw_ := hw_.symm
      subst hw_
      dsimp only
      exact hK.out _ _ hw (Below.refl _ _) (rfl)
    refine Inv.Steps.go (by decide) (by rfl) (fun σ wx hw hd K hK => ?_) ?_
    · simp only [List.getElem_toArray, List.getElem_cons_zero, List.getElem_cons_succ, Act.put, List.setIfInBounds_toArray, List.set_cons_zero, List.set_cons_succ] at hK ⊢
      go_simp
      exact hK.out _ _ hw (Below.refl _ _) (rfl)
    refine Inv.Steps.go (by decide) (by rfl) (fun σ wx hw hd K hK => ?_) ?_
    · obtain e14 : (σ 14) = .pointer (some ⟨w.heap.size, 0, none⟩) := hd 7 (some 14) (by kernel_rfl) (by rfl)
      simp only [List.getElem_toArray, List.getElem_cons_zero, List.getElem_cons_succ, Act.put, List.setIfInBounds_toArray, List.set_cons_zero, List.set_cons_succ, e14] at hK ⊢
      go_simp
      exact hK.out _ _ hw (Below.refl _ _) (rfl)
    refine Inv.Steps.go (by decide) (by rfl) (fun σ wx hw hd K hK => ?_) ?_
    · obtain e15 : (σ 15) = .pointer (some ⟨w.heap.size, 1, none⟩) := hd 8 (some 15) (by kernel_rfl) (by rfl)
      simp only [List.getElem_toArray, List.getElem_cons_zero, List.getElem_cons_succ, Act.put, List.setIfInBounds_toArray, List.set_cons_zero, List.set_cons_succ, e15] at hK ⊢
      obtain ⟨u1, u2, u3, u4, u5, u6⟩ := cells6 (blk_b hw p1.out)
      go_simp
      exact hK.out _ _ hw (Below.refl _ _) (rfl)
    refine Inv.Steps.go (by decide) (by rfl) (fun σ wx hw hd K hK => ?_) ?_
    · simp only [List.getElem_toArray, List.getElem_cons_zero, List.getElem_cons_succ, Act.put, List.setIfInBounds_toArray, List.set_cons_zero, List.set_cons_succ] at hK ⊢
      go_simp
      exact hK.out _ _ hw (Below.refl _ _) (rfl)
    refine Inv.Steps.go (by decide) (by rfl) (fun σ wx hw hd K hK => ?_) ?_
    · obtain e17 : (σ 17) = .pointer (some ⟨w.heap.size, 3, none⟩) := hd 10 (some 17) (by kernel_rfl) (by rfl)
      simp only [List.getElem_toArray, List.getElem_cons_zero, List.getElem_cons_succ, Act.put, List.setIfInBounds_toArray, List.set_cons_zero, List.set_cons_succ, e17] at hK ⊢
      go_simp
      exact hK.out _ _ hw (Below.refl _ _) (rfl)
    refine Inv.Steps.go (by decide) (by rfl) (fun σ wx hw hd K hK => ?_) ?_
    · obtain e18 : (σ 18) = .pointer (some ⟨w.heap.size, 4, none⟩) := hd 11 (some 18) (by kernel_rfl) (by rfl)
      simp only [List.getElem_toArray, List.getElem_cons_zero, List.getElem_cons_succ, Act.put, List.setIfInBounds_toArray, List.set_cons_zero, List.set_cons_succ, e18] at hK ⊢
      obtain ⟨u1, u2, u3, u4, u5, u6⟩ := cells6 (blk_b hw p1.out)
      go_simp
      exact hK.out _ _ hw (Below.refl _ _) (rfl)
    refine Inv.Steps.go (by decide) (by rfl) (fun σ wx hw hd K hK => ?_) ?_
    · obtain e16 : (σ 16) = .int .i64 b := hd 9 (some 16) (by kernel_rfl) (by rfl)
      obtain e19 : (σ 19) = .int .i64 e := hd 12 (some 19) (by kernel_rfl) (by rfl)
      simp only [List.getElem_toArray, List.getElem_cons_zero, List.getElem_cons_succ, Act.put, List.setIfInBounds_toArray, List.set_cons_zero, List.set_cons_succ, e16, e19] at hK ⊢
      go_simp
      go_at_call 62
      refine (M1.out _).mono ?_
      rintro e_ w_ ⟨rfl, hw_⟩
      replace hw_ := hw_.symm
      subst hw_
      dsimp only
      exact hK.out _ _ hw (Below.refl _ _) (rfl)
    refine Inv.Steps.go (by decide) (by rfl) (fun σ wx hw hd K hK => ?_) ?_
    · simp only [List.getElem_toArray, List.getElem_cons_zero, List.getElem_cons_succ, Act.put, List.setIfInBounds_toArray, List.set_cons_zero, List.set_cons_succ] at hK ⊢
      go_simp
      exact hK.out _ _ hw (Below.refl _ _) (rfl)
    refine Inv.Steps.go (by decide) (by rfl) (fun σ wx hw hd K hK => ?_) ?_
    · obtain e21 : (σ 21) = .pointer (some ⟨w.heap.size, 0, none⟩) := hd 14 (some 21) (by kernel_rfl) (by rfl)
      simp only [List.getElem_toArray, List.getElem_cons_zero, List.getElem_cons_succ, Act.put, List.setIfInBounds_toArray, List.set_cons_zero, List.set_cons_succ, e21] at hK ⊢
      go_simp
      exact hK.out _ _ hw (Below.refl _ _) (rfl)
    refine Inv.Steps.go (by decide) (by rfl) (fun σ wx hw hd K hK => ?_) ?_
    · obtain e22 : (σ 22) = .pointer (some ⟨w.heap.size, 2, none⟩) := hd 15 (some 22) (by kernel_rfl) (by rfl)
      simp only [List.getElem_toArray, List.getElem_cons_zero, List.getElem_cons_succ, Act.put, List.setIfInBounds_toArray, List.set_cons_zero, List.set_cons_succ, e22] at hK ⊢
      obtain ⟨u1, u2, u3, u4, u5, u6⟩ := cells6 (blk_b hw p1.out)
      go_simp
      exact hK.out _ _ hw (Below.refl _ _) (rfl)
    refine Inv.Steps.go (by decide) (by rfl) (fun σ wx hw hd K hK => ?_) ?_
    · simp only [List.getElem_toArray, List.getElem_cons_zero, List.getElem_cons_succ, Act.put, List.setIfInBounds_toArray, List.set_cons_zero, List.set_cons_succ] at hK ⊢
      go_simp
      exact hK.out _ _ hw (Below.refl _ _) (rfl)
    refine Inv.Steps.go (by decide) (by rfl) (fun σ wx hw hd K hK => ?_) ?_
    · obtain e24 : (σ 24) = .pointer (some ⟨w.heap.size, 3, none⟩) := hd 17 (some 24) (by kernel_rfl) (by rfl)
      simp only [List.getElem_toArray, List.getElem_cons_zero, List.getElem_cons_succ, Act.put, List.setIfInBounds_toArray, List.set_cons_zero, List.set_cons_succ, e24] at hK ⊢
      go_simp
      exact hK.out _ _ hw (Below.refl _ _) (rfl)
    refine Inv.Steps.go (by decide) (by rfl) (fun σ wx hw hd K hK => ?_) ?_
    · obtain e25 : (σ 25) = .pointer (some ⟨w.heap.size, 5, none⟩) := hd 18 (some 25) (by kernel_rfl) (by rfl)
      simp only [List.getElem_toArray, List.getElem_cons_zero, List.getElem_cons_succ, Act.put, List.setIfInBounds_toArray, List.set_cons_zero, List.set_cons_succ, e25] at hK ⊢
      obtain ⟨u1, u2, u3, u4, u5, u6⟩ := cells6 (blk_b hw p1.out)
      go_simp
      exact hK.out _ _ hw (Below.refl _ _) (rfl)
    refine Inv.Steps.go (by decide) (by rfl) (fun σ wx hw hd K hK => ?_) ?_
    · obtain e23 : (σ 23) = .int .i64 c := hd 16 (some 23) (by kernel_rfl) (by rfl)
      obtain e26 : (σ 26) = .int .i64 f := hd 19 (some 26) (by kernel_rfl) (by rfl)
      simp only [List.getElem_toArray, List.getElem_cons_zero, List.getElem_cons_succ, Act.put, List.setIfInBounds_toArray, List.set_cons_zero, List.set_cons_succ, e23, e26] at hK ⊢
      go_simp
      go_at_call 62
      refine (M2.out _).mono ?_
      rintro e_ w_ ⟨rfl, hw_⟩
      replace hw_ := hw_.symm
      subst hw_
      dsimp only
      exact hK.out _ _ hw (Below.refl _ _) (rfl)
    refine Inv.Steps.go (by decide) (by rfl) (fun σ wx hw hd K hK => ?_) ?_
    · obtain e13 : (σ 13) = .int .i64 m0 := hd 6 (some 13) (by kernel_rfl) (by rfl)
      obtain e20 : (σ 20) = .int .i64 m1 := hd 13 (some 20) (by kernel_rfl) (by rfl)
      obtain e27 : (σ 27) = .int .i64 m2 := hd 20 (some 27) (by kernel_rfl) (by rfl)
      simp only [List.getElem_toArray, List.getElem_cons_zero, List.getElem_cons_succ, Act.put, List.setIfInBounds_toArray, List.set_cons_zero, List.set_cons_succ, e13, e20, e27] at hK ⊢
      go_simp
      exact hK.out _ _ hw (Below.refl _ _) (rfl)
    exact Inv.Steps.nil
  · intro σ wx hw hd
    obtain e28 : (σ 28) = .agg #[.int .i64 m0, .int .i64 m1, .int .i64 m2] := hd 21 (some 28) (by rfl) (by rfl)
    simp only [e28]
    obtain ⟨e1, e2, e3, e4, e5, e6⟩ := cells3 (blk_b hw p2.out)
    have p2x := Lib.hid (blk_b hw p2.out)
    replace hA := Lib.hid (Buf.then_ hA.out hw)
    refine Inv.one (i := 22) (by decide) (by kernel_rfl) (by rfl) (fun K hK => ?_)
    simp only [List.getElem_toArray, List.getElem_cons_zero, List.getElem_cons_succ, Act.put, List.setIfInBounds_toArray, List.set_cons_zero, List.set_cons_succ] at hK ⊢
    go_simp
    refine hK.out _ _ (Inv.done (by kernel_rfl) (NoPanic.normal ?_))
    clear hK K hd hw
    go_wp2
    exact bodyPost_ret (results_cell_row rfl _ _ (w.heap.size + 1) _ _ _ _ rfl (st3 p2x.out (.int .i64 m0) (.int .i64 m1) (.int .i64 m2)) rfl (by rfl) rfl) rfl ⟨rfl, st3_below hA.out (by omega) (.int .i64 m0) (.int .i64 m1) (.int .i64 m2)⟩
set_option maxHeartbeats 8000000 in
set_option maxRecDepth 100000 in
theorem rcon_0 (a b c d e f x y z : Int) (k1 : bvB a b c d e f = false) (w : World) :
    Calls Try.prog 14 #[.agg #[.int .i64 a, .int .i64 b, .int .i64 c, .int .i64 d, .int .i64 e, .int .i64 f], .agg #[.int .i64 x, .int .i64 y, .int .i64 z]] w fun r w' => r = .returned (.bool false) ∧ Below w.heap.size w w' := by
  have V1 := Lib.hid fun w => rvalidBox_any a b c d e f w
  rw [k1] at V1
  clear k1
  have p1 := Lib.hid (blk_alloc (blk_new w (.cells #[.int .i64 a, .int .i64 b, .int .i64 c, .int .i64 d, .int .i64 e, .int .i64 f] 26)) (.cells #[.int .i64 x, .int .i64 y, .int .i64 z] 24))
  have p2 := Lib.hid (blk_new1 w (.cells #[.int .i64 a, .int .i64 b, .int .i64 c, .int .i64 d, .int .i64 e, .int .i64 f] 26) (.cells #[.int .i64 x, .int .i64 y, .int .i64 z] 24))
  have hA := Lib.hid (Buf.then_ (new_block (w := w) (.cells #[.int .i64 a, .int .i64 b, .int .i64 c, .int .i64 d, .int .i64 e, .int .i64 f] 26)) (new_block (.cells #[.int .i64 x, .int .i64 y, .int .i64 z] 24)))
  go_enter Try.func14, Try.ntmps14
  go_wp2_with fail
  with_reducible refine (V1.out _).mono ?_
  rintro r w1 ⟨rfl, hb⟩
  replace p1 := Lib.hid (blk_b hb p1.out)
  replace p2 := Lib.hid (blk_b hb p2.out)
  replace hA := Lib.hid (Buf.then_ hA.out hb)
  clear hb
  go_wp2_with fail
  go_ret
  exact ⟨rfl, hA.out⟩
set_option maxHeartbeats 8000000 in
set_option maxRecDepth 100000 in
theorem rcon_1 (a b c d e f x y z : Int) (k1 : bvB a b c d e f = true) (n0 : x < a) (w : World) :
    Calls Try.prog 14 #[.agg #[.int .i64 a, .int .i64 b, .int .i64 c, .int .i64 d, .int .i64 e, .int .i64 f], .agg #[.int .i64 x, .int .i64 y, .int .i64 z]] w fun r w' => r = .returned (.bool false) ∧ Below w.heap.size w w' := by
  have V1 := Lib.hid fun w => rvalidBox_any a b c d e f w
  rw [k1] at V1
  clear k1
  have p1 := Lib.hid (blk_alloc (blk_new w (.cells #[.int .i64 a, .int .i64 b, .int .i64 c, .int .i64 d, .int .i64 e, .int .i64 f] 26)) (.cells #[.int .i64 x, .int .i64 y, .int .i64 z] 24))
  have p2 := Lib.hid (blk_new1 w (.cells #[.int .i64 a, .int .i64 b, .int .i64 c, .int .i64 d, .int .i64 e, .int .i64 f] 26) (.cells #[.int .i64 x, .int .i64 y, .int .i64 z] 24))
  have hA := Lib.hid (Buf.then_ (new_block (w := w) (.cells #[.int .i64 a, .int .i64 b, .int .i64 c, .int .i64 d, .int .i64 e, .int .i64 f] 26)) (new_block (.cells #[.int .i64 x, .int .i64 y, .int .i64 z] 24)))
  go_enter Try.func14, Try.ntmps14
  go_wp2_with fail
  with_reducible refine (V1.out _).mono ?_
  rintro r w1 ⟨rfl, hb⟩
  replace p1 := Lib.hid (blk_b hb p1.out)
  replace p2 := Lib.hid (blk_b hb p2.out)
  replace hA := Lib.hid (Buf.then_ hA.out hb)
  clear hb
  obtain ⟨u1, u2, u3, u4, u5, u6⟩ := cells6 p1.out
  obtain ⟨q1, q2, q3, _, _, _⟩ := cells3 p2.out
  go_wp2_with fail
  go_ret
  exact ⟨rfl, hA.out⟩
set_option maxHeartbeats 8000000 in
set_option maxRecDepth 100000 in
theorem rcon_2 (a b c d e f x y z : Int) (k1 : bvB a b c d e f = true) (c0 : a ≤ x) (n1 : d < x) (w : World) :
    Calls Try.prog 14 #[.agg #[.int .i64 a, .int .i64 b, .int .i64 c, .int .i64 d, .int .i64 e, .int .i64 f], .agg #[.int .i64 x, .int .i64 y, .int .i64 z]] w fun r w' => r = .returned (.bool false) ∧ Below w.heap.size w w' := by
  have V1 := Lib.hid fun w => rvalidBox_any a b c d e f w
  rw [k1] at V1
  clear k1
  have p1 := Lib.hid (blk_alloc (blk_new w (.cells #[.int .i64 a, .int .i64 b, .int .i64 c, .int .i64 d, .int .i64 e, .int .i64 f] 26)) (.cells #[.int .i64 x, .int .i64 y, .int .i64 z] 24))
  have p2 := Lib.hid (blk_new1 w (.cells #[.int .i64 a, .int .i64 b, .int .i64 c, .int .i64 d, .int .i64 e, .int .i64 f] 26) (.cells #[.int .i64 x, .int .i64 y, .int .i64 z] 24))
  have hA := Lib.hid (Buf.then_ (new_block (w := w) (.cells #[.int .i64 a, .int .i64 b, .int .i64 c, .int .i64 d, .int .i64 e, .int .i64 f] 26)) (new_block (.cells #[.int .i64 x, .int .i64 y, .int .i64 z] 24)))
  go_enter Try.func14, Try.ntmps14
  go_wp2_with fail
  with_reducible refine (V1.out _).mono ?_
  rintro r w1 ⟨rfl, hb⟩
  replace p1 := Lib.hid (blk_b hb p1.out)
  replace p2 := Lib.hid (blk_b hb p2.out)
  replace hA := Lib.hid (Buf.then_ hA.out hb)
  clear hb
  obtain ⟨u1, u2, u3, u4, u5, u6⟩ := cells6 p1.out
  obtain ⟨q1, q2, q3, _, _, _⟩ := cells3 p2.out
  go_wp2_with fail
  go_ret
  exact ⟨rfl, hA.out⟩
set_option maxHeartbeats 8000000 in
set_option maxRecDepth 100000 in
theorem rcon_3 (a b c d e f x y z : Int) (k1 : bvB a b c d e f = true) (c0 : a ≤ x) (c1 : x ≤ d) (n2 : y < b) (w : World) :
    Calls Try.prog 14 #[.agg #[.int .i64 a, .int .i64 b, .int .i64 c, .int .i64 d, .int .i64 e, .int .i64 f], .agg #[.int .i64 x, .int .i64 y, .int .i64 z]] w fun r w' => r = .returned (.bool false) ∧ Below w.heap.size w w' := by
  have V1 := Lib.hid fun w => rvalidBox_any a b c d e f w
  rw [k1] at V1
  clear k1
  have p1 := Lib.hid (blk_alloc (blk_new w (.cells #[.int .i64 a, .int .i64 b, .int .i64 c, .int .i64 d, .int .i64 e, .int .i64 f] 26)) (.cells #[.int .i64 x, .int .i64 y, .int .i64 z] 24))
  have p2 := Lib.hid (blk_new1 w (.cells #[.int .i64 a, .int .i64 b, .int .i64 c, .int .i64 d, .int .i64 e, .int .i64 f] 26) (.cells #[.int .i64 x, .int .i64 y, .int .i64 z] 24))
  have hA := Lib.hid (Buf.then_ (new_block (w := w) (.cells #[.int .i64 a, .int .i64 b, .int .i64 c, .int .i64 d, .int .i64 e, .int .i64 f] 26)) (new_block (.cells #[.int .i64 x, .int .i64 y, .int .i64 z] 24)))
  go_enter Try.func14, Try.ntmps14
  go_wp2_with fail
  with_reducible refine (V1.out _).mono ?_
  rintro r w1 ⟨rfl, hb⟩
  replace p1 := Lib.hid (blk_b hb p1.out)
  replace p2 := Lib.hid (blk_b hb p2.out)
  replace hA := Lib.hid (Buf.then_ hA.out hb)
  clear hb
  obtain ⟨u1, u2, u3, u4, u5, u6⟩ := cells6 p1.out
  obtain ⟨q1, q2, q3, _, _, _⟩ := cells3 p2.out
  go_wp2_with fail
  go_ret
  exact ⟨rfl, hA.out⟩
set_option maxHeartbeats 8000000 in
set_option maxRecDepth 100000 in
theorem rcon_4 (a b c d e f x y z : Int) (k1 : bvB a b c d e f = true) (c0 : a ≤ x) (c1 : x ≤ d) (c2 : b ≤ y) (n3 : e < y) (w : World) :
    Calls Try.prog 14 #[.agg #[.int .i64 a, .int .i64 b, .int .i64 c, .int .i64 d, .int .i64 e, .int .i64 f], .agg #[.int .i64 x, .int .i64 y, .int .i64 z]] w fun r w' => r = .returned (.bool false) ∧ Below w.heap.size w w' := by
  have V1 := Lib.hid fun w => rvalidBox_any a b c d e f w
  rw [k1] at V1
  clear k1
  have p1 := Lib.hid (blk_alloc (blk_new w (.cells #[.int .i64 a, .int .i64 b, .int .i64 c, .int .i64 d, .int .i64 e, .int .i64 f] 26)) (.cells #[.int .i64 x, .int .i64 y, .int .i64 z] 24))
  have p2 := Lib.hid (blk_new1 w (.cells #[.int .i64 a, .int .i64 b, .int .i64 c, .int .i64 d, .int .i64 e, .int .i64 f] 26) (.cells #[.int .i64 x, .int .i64 y, .int .i64 z] 24))
  have hA := Lib.hid (Buf.then_ (new_block (w := w) (.cells #[.int .i64 a, .int .i64 b, .int .i64 c, .int .i64 d, .int .i64 e, .int .i64 f] 26)) (new_block (.cells #[.int .i64 x, .int .i64 y, .int .i64 z] 24)))
  go_enter Try.func14, Try.ntmps14
  go_wp2_with fail
  with_reducible refine (V1.out _).mono ?_
  rintro r w1 ⟨rfl, hb⟩
  replace p1 := Lib.hid (blk_b hb p1.out)
  replace p2 := Lib.hid (blk_b hb p2.out)
  replace hA := Lib.hid (Buf.then_ hA.out hb)
  clear hb
  obtain ⟨u1, u2, u3, u4, u5, u6⟩ := cells6 p1.out
  obtain ⟨q1, q2, q3, _, _, _⟩ := cells3 p2.out
  go_wp2_with fail
  go_ret
  exact ⟨rfl, hA.out⟩
set_option maxHeartbeats 8000000 in
set_option maxRecDepth 100000 in
theorem rcon_5 (a b c d e f x y z : Int) (k1 : bvB a b c d e f = true) (c0 : a ≤ x) (c1 : x ≤ d) (c2 : b ≤ y) (c3 : y ≤ e) (n4 : z < c) (w : World) :
    Calls Try.prog 14 #[.agg #[.int .i64 a, .int .i64 b, .int .i64 c, .int .i64 d, .int .i64 e, .int .i64 f], .agg #[.int .i64 x, .int .i64 y, .int .i64 z]] w fun r w' => r = .returned (.bool false) ∧ Below w.heap.size w w' := by
  have V1 := Lib.hid fun w => rvalidBox_any a b c d e f w
  rw [k1] at V1
  clear k1
  have p1 := Lib.hid (blk_alloc (blk_new w (.cells #[.int .i64 a, .int .i64 b, .int .i64 c, .int .i64 d, .int .i64 e, .int .i64 f] 26)) (.cells #[.int .i64 x, .int .i64 y, .int .i64 z] 24))
  have p2 := Lib.hid (blk_new1 w (.cells #[.int .i64 a, .int .i64 b, .int .i64 c, .int .i64 d, .int .i64 e, .int .i64 f] 26) (.cells #[.int .i64 x, .int .i64 y, .int .i64 z] 24))
  have hA := Lib.hid (Buf.then_ (new_block (w := w) (.cells #[.int .i64 a, .int .i64 b, .int .i64 c, .int .i64 d, .int .i64 e, .int .i64 f] 26)) (new_block (.cells #[.int .i64 x, .int .i64 y, .int .i64 z] 24)))
  go_enter Try.func14, Try.ntmps14
  go_wp2_with fail
  with_reducible refine (V1.out _).mono ?_
  rintro r w1 ⟨rfl, hb⟩
  replace p1 := Lib.hid (blk_b hb p1.out)
  replace p2 := Lib.hid (blk_b hb p2.out)
  replace hA := Lib.hid (Buf.then_ hA.out hb)
  clear hb
  obtain ⟨u1, u2, u3, u4, u5, u6⟩ := cells6 p1.out
  obtain ⟨q1, q2, q3, _, _, _⟩ := cells3 p2.out
  go_wp2_with fail
  go_ret
  exact ⟨rfl, hA.out⟩
set_option maxHeartbeats 8000000 in
set_option maxRecDepth 100000 in
theorem rcon_6 (a b c d e f x y z : Int) (k1 : bvB a b c d e f = true) (c0 : a ≤ x) (c1 : x ≤ d) (c2 : b ≤ y) (c3 : y ≤ e) (c4 : c ≤ z) (w : World) :
    Calls Try.prog 14 #[.agg #[.int .i64 a, .int .i64 b, .int .i64 c, .int .i64 d, .int .i64 e, .int .i64 f], .agg #[.int .i64 x, .int .i64 y, .int .i64 z]] w fun r w' => r = .returned (.bool (decide (z ≤ f))) ∧ Below w.heap.size w w' := by
  have V1 := Lib.hid fun w => rvalidBox_any a b c d e f w
  rw [k1] at V1
  clear k1
  have p1 := Lib.hid (blk_alloc (blk_new w (.cells #[.int .i64 a, .int .i64 b, .int .i64 c, .int .i64 d, .int .i64 e, .int .i64 f] 26)) (.cells #[.int .i64 x, .int .i64 y, .int .i64 z] 24))
  have p2 := Lib.hid (blk_new1 w (.cells #[.int .i64 a, .int .i64 b, .int .i64 c, .int .i64 d, .int .i64 e, .int .i64 f] 26) (.cells #[.int .i64 x, .int .i64 y, .int .i64 z] 24))
  have hA := Lib.hid (Buf.then_ (new_block (w := w) (.cells #[.int .i64 a, .int .i64 b, .int .i64 c, .int .i64 d, .int .i64 e, .int .i64 f] 26)) (new_block (.cells #[.int .i64 x, .int .i64 y, .int .i64 z] 24)))
  go_enter Try.func14, Try.ntmps14
  go_wp2_with fail
  with_reducible refine (V1.out _).mono ?_
  rintro r w1 ⟨rfl, hb⟩
  replace p1 := Lib.hid (blk_b hb p1.out)
  replace p2 := Lib.hid (blk_b hb p2.out)
  replace hA := Lib.hid (Buf.then_ hA.out hb)
  clear hb
  obtain ⟨u1, u2, u3, u4, u5, u6⟩ := cells6 p1.out
  obtain ⟨q1, q2, q3, _, _, _⟩ := cells3 p2.out
  go_wp2_with fail
  go_ret
  exact ⟨rfl, hA.out⟩
theorem rcontains_any (a b c d e f x y z : Int) (w : World) :
    Calls Try.prog 14 #[.agg #[.int .i64 a, .int .i64 b, .int .i64 c, .int .i64 d, .int .i64 e, .int .i64 f], .agg #[.int .i64 x, .int .i64 y, .int .i64 z]] w fun r w' => r = .returned (.bool (coV a b c d e f x y z)) ∧ Below w.heap.size w w' := by
  have e0 : coV a b c d e f x y z = (bvB a b c d e f && (decide (a ≤ x) && (decide (x ≤ d) && (decide (b ≤ y) && (decide (y ≤ e) && (decide (c ≤ z) && decide (z ≤ f))))))) := by
    unfold coV
    rw [Bool.eq_iff_iff]
    simp only [Bool.and_eq_true, decide_eq_true_eq]
  rw [e0]
  cases k1 : bvB a b c d e f with
  | false => exact rcon_0 a b c d e f x y z k1 w
  | true =>
    rw [Bool.true_and]
    by_cases c0 : a ≤ x
    · rw [decide_eq_true c0, Bool.true_and]
      by_cases c1 : x ≤ d
      · rw [decide_eq_true c1, Bool.true_and]
        by_cases c2 : b ≤ y
        · rw [decide_eq_true c2, Bool.true_and]
          by_cases c3 : y ≤ e
          · rw [decide_eq_true c3, Bool.true_and]
            by_cases c4 : c ≤ z
            · rw [decide_eq_true c4, Bool.true_and]
              exact rcon_6 a b c d e f x y z k1 c0 c1 c2 c3 c4 w
            · rw [decide_eq_false c4, Bool.false_and]
              exact rcon_5 a b c d e f x y z k1 c0 c1 c2 c3 (by omega) w
          · rw [decide_eq_false c3, Bool.false_and]
            exact rcon_4 a b c d e f x y z k1 c0 c1 c2 (by omega) w
        · rw [decide_eq_false c2, Bool.false_and]
          exact rcon_3 a b c d e f x y z k1 c0 c1 (by omega) w
      · rw [decide_eq_false c1, Bool.false_and]
        exact rcon_2 a b c d e f x y z k1 c0 (by omega) w
    · rw [decide_eq_false c0, Bool.false_and]
      exact rcon_1 a b c d e f x y z k1  (by omega) w
set_option maxHeartbeats 8000000 in
set_option maxRecDepth 100000 in
theorem rwithin_any (a b c d e f a' b' c' d' e' f' : Int) (w : World) :
    Calls Try.prog 65 #[.agg #[.int .i64 a, .int .i64 b, .int .i64 c, .int .i64 d, .int .i64 e, .int .i64 f], .agg #[.int .i64 a', .int .i64 b', .int .i64 c', .int .i64 d', .int .i64 e', .int .i64 f']] w fun r w' => r = .returned (.bool (wiV a b c d e f a' b' c' d' e' f')) ∧ Below w.heap.size w w' := by
  rw [wi_co]
  have V1 := Lib.hid fun w => rvalidBox_any a b c d e f w
  have V2 := Lib.hid fun w => rcontains_any a' b' c' d' e' f' a b c w
  have V3 := Lib.hid fun w => rcontains_any a' b' c' d' e' f' d e f w
  generalize bvB a b c d e f = v1 at *
  generalize coV a' b' c' d' e' f' a b c = v2 at *
  generalize coV a' b' c' d' e' f' d e f = v3 at *
  have p1 := Lib.hid (blk_alloc (blk_new w (.cells #[.int .i64 a, .int .i64 b, .int .i64 c, .int .i64 d, .int .i64 e, .int .i64 f] 26)) (.cells #[.int .i64 a', .int .i64 b', .int .i64 c', .int .i64 d', .int .i64 e', .int .i64 f'] 26))
  have p2 := Lib.hid (blk_new1 w (.cells #[.int .i64 a, .int .i64 b, .int .i64 c, .int .i64 d, .int .i64 e, .int .i64 f] 26) (.cells #[.int .i64 a', .int .i64 b', .int .i64 c', .int .i64 d', .int .i64 e', .int .i64 f'] 26))
  have hA := Lib.hid (Buf.then_ (new_block (w := w) (.cells #[.int .i64 a, .int .i64 b, .int .i64 c, .int .i64 d, .int .i64 e, .int .i64 f] 26)) (new_block (.cells #[.int .i64 a', .int .i64 b', .int .i64 c', .int .i64 d', .int .i64 e', .int .i64 f'] 26)))
  go_enter Try.func65, Try.ntmps65
  go_wp2_with fail
  with_reducible refine (V1.out _).mono ?_
  rintro r w1 ⟨rfl, hb⟩
  replace p1 := Lib.hid (blk_b hb p1.out)
  replace p2 := Lib.hid (blk_b hb p2.out)
  replace hA := Lib.hid (Buf.then_ hA.out hb)
  clear hb
  cases v1 with
  | false =>
    go_wp2_with fail
    go_ret
    exact ⟨rfl, hA.out⟩
  | true =>
    obtain ⟨u1, u2, u3, u4, u5, u6⟩ := cells6 p1.out
    obtain ⟨q1, q2, q3, q4, q5, q6⟩ := cells6 p2.out
    go_wp2_with fail
    with_reducible refine (V2.out _).mono ?_
    rintro r w2 ⟨rfl, hb⟩
    replace p1 := Lib.hid (blk_b hb p1.out)
    replace p2 := Lib.hid (blk_b hb p2.out)
    replace hA := Lib.hid (Buf.then_ hA.out hb)
    clear hb
    cases v2 with
    | false =>
      go_wp2_with fail
      go_ret
      exact ⟨rfl, hA.out⟩
    | true =>
      clear u1 u2 u3 u4 u5 u6 q1 q2 q3 q4 q5 q6
      obtain ⟨u1, u2, u3, u4, u5, u6⟩ := cells6 p1.out
      obtain ⟨q1, q2, q3, q4, q5, q6⟩ := cells6 p2.out
      go_wp2_with fail
      with_reducible refine (V3.out _).mono ?_
      rintro r w3 ⟨rfl, hb⟩
      replace hA := Lib.hid (Buf.then_ hA.out hb)
      clear hb
      go_wp2_with fail
      go_ret
      exact ⟨rfl, hA.out⟩
set_option maxHeartbeats 8000000 in
set_option maxRecDepth 100000 in
theorem rhull_3 (a b c d e f a' b' c' d' e' f' : Int) (k1 : bvB a b c d e f = true) (k2 : bvB a' b' c' d' e' f' = true) (w : World) :
    Calls Try.prog 45 #[.agg #[.int .i64 a, .int .i64 b, .int .i64 c, .int .i64 d, .int .i64 e, .int .i64 f], .agg #[.int .i64 a', .int .i64 b', .int .i64 c', .int .i64 d', .int .i64 e', .int .i64 f']] w fun r w' => r = .returned (.agg #[.int .i64 (min a a'), .int .i64 (min b b'), .int .i64 (min c c'), .int .i64 (max d d'), .int .i64 (max e e'), .int .i64 (max f f')]) ∧ Below w.heap.size w w' := by
  have V1 := Lib.hid fun w => rvalidBox_any a b c d e f w
  rw [k1] at V1
  have V2 := Lib.hid fun w => rvalidBox_any a' b' c' d' e' f' w
  rw [k2] at V2
  clear k1 k2
  have p1 := Lib.hid (blk_alloc (blk_alloc (blk_new w (.cells #[.int .i64 a, .int .i64 b, .int .i64 c, .int .i64 d, .int .i64 e, .int .i64 f] 26)) (.cells #[.int .i64 a', .int .i64 b', .int .i64 c', .int .i64 d', .int .i64 e', .int .i64 f'] 26)) (.cells #[.int .i64 0, .int .i64 0, .int .i64 0, .int .i64 0, .int .i64 0, .int .i64 0] 26))
  have p2 := Lib.hid (blk_alloc (blk_new1 w (.cells #[.int .i64 a, .int .i64 b, .int .i64 c, .int .i64 d, .int .i64 e, .int .i64 f] 26) (.cells #[.int .i64 a', .int .i64 b', .int .i64 c', .int .i64 d', .int .i64 e', .int .i64 f'] 26)) (.cells #[.int .i64 0, .int .i64 0, .int .i64 0, .int .i64 0, .int .i64 0, .int .i64 0] 26))
  have p3 := Lib.hid (blk_new2 w (.cells #[.int .i64 a, .int .i64 b, .int .i64 c, .int .i64 d, .int .i64 e, .int .i64 f] 26) (.cells #[.int .i64 a', .int .i64 b', .int .i64 c', .int .i64 d', .int .i64 e', .int .i64 f'] 26) (.cells #[.int .i64 0, .int .i64 0, .int .i64 0, .int .i64 0, .int .i64 0, .int .i64 0] 26))
  have hA := Lib.hid (Buf.then_ (Buf.then_ (new_block (w := w) (.cells #[.int .i64 a, .int .i64 b, .int .i64 c, .int .i64 d, .int .i64 e, .int .i64 f] 26)) (new_block (.cells #[.int .i64 a', .int .i64 b', .int .i64 c', .int .i64 d', .int .i64 e', .int .i64 f'] 26))) (new_block (.cells #[.int .i64 0, .int .i64 0, .int .i64 0, .int .i64 0, .int .i64 0, .int .i64 0] 26)))
  go_enter Try.func45, Try.ntmps45
  go_wp2_with fail
  with_reducible refine (V1.out _).mono ?_
  rintro r w1 ⟨rfl, hb⟩
  replace p1 := Lib.hid (blk_b hb p1.out)
  replace p2 := Lib.hid (blk_b hb p2.out)
  replace p3 := Lib.hid (blk_b hb p3.out)
  replace hA := Lib.hid (Buf.then_ hA.out hb)
  clear hb
  obtain ⟨q1, q2, q3, q4, q5, q6⟩ := cells6 p2.out
  go_wp2_with fail
  with_reducible refine (V2.out _).mono ?_
  rintro r w2 ⟨rfl, hb⟩
  replace p1 := Lib.hid (blk_b hb p1.out)
  replace p2 := Lib.hid (blk_b hb p2.out)
  replace p3 := Lib.hid (blk_b hb p3.out)
  replace hA := Lib.hid (Buf.then_ hA.out hb)
  clear hb
  clear q1 q2 q3 q4 q5 q6
  obtain ⟨u1, u2, u3, u4, u5, u6⟩ := cells6 p1.out
  obtain ⟨q1, q2, q3, q4, q5, q6⟩ := cells6 p2.out
  obtain ⟨e1, e2, e3, e4, e5, e6, e7, e8, e9, e10, e11, e12⟩ := cells6f p3.out
  go_wp2_with fail
  exact bodyPost_ret (results_cell_row rfl _ _ (w.heap.size + 1 + 1) _ _ _ _ rfl (st6 p3.out (.int .i64 (min a a')) (.int .i64 (min b b')) (.int .i64 (min c c')) (.int .i64 (max d d')) (.int .i64 (max e e')) (.int .i64 (max f f'))) rfl (by rfl) rfl) rfl ⟨rfl, st6_below hA.out (by omega) (.int .i64 (min a a')) (.int .i64 (min b b')) (.int .i64 (min c c')) (.int .i64 (max d d')) (.int .i64 (max e e')) (.int .i64 (max f f'))⟩
set_option maxHeartbeats 8000000 in
set_option maxRecDepth 100000 in
theorem rsplit_lt (a b c d e f : Int) (n : Int) (hn : n < 2) (P : Hid (∀ w, Calls Try.prog 64 #[.agg #[.int .i64 a, .int .i64 b, .int .i64 c, .int .i64 d, .int .i64 e, .int .i64 f]] w fun r w' => r = .returned (.int .i64 n) ∧ Below w.heap.size w w')) (w : World) :
    Calls Try.prog 44 #[.agg #[.int .i64 a, .int .i64 b, .int .i64 c, .int .i64 d, .int .i64 e, .int .i64 f]] w fun r w' => r = .returned (.tuple #[.agg #[.int .i64 0, .int .i64 0, .int .i64 0, .int .i64 0, .int .i64 0, .int .i64 0], .agg #[.int .i64 0, .int .i64 0, .int .i64 0, .int .i64 0, .int .i64 0, .int .i64 0], .bool false]) ∧ Below w.heap.size w w' := by
  have p1 := Lib.hid (blk_alloc (blk_alloc (blk_new w (.cells #[.int .i64 a, .int .i64 b, .int .i64 c, .int .i64 d, .int .i64 e, .int .i64 f] 26)) (.cells #[.int .i64 0, .int .i64 0, .int .i64 0, .int .i64 0, .int .i64 0, .int .i64 0] 26)) (.cells #[.int .i64 0, .int .i64 0, .int .i64 0, .int .i64 0, .int .i64 0, .int .i64 0] 26))
  have p2 := Lib.hid (blk_alloc (blk_new1 w (.cells #[.int .i64 a, .int .i64 b, .int .i64 c, .int .i64 d, .int .i64 e, .int .i64 f] 26) (.cells #[.int .i64 0, .int .i64 0, .int .i64 0, .int .i64 0, .int .i64 0, .int .i64 0] 26)) (.cells #[.int .i64 0, .int .i64 0, .int .i64 0, .int .i64 0, .int .i64 0, .int .i64 0] 26))
  have p3 := Lib.hid (blk_new2 w (.cells #[.int .i64 a, .int .i64 b, .int .i64 c, .int .i64 d, .int .i64 e, .int .i64 f] 26) (.cells #[.int .i64 0, .int .i64 0, .int .i64 0, .int .i64 0, .int .i64 0, .int .i64 0] 26) (.cells #[.int .i64 0, .int .i64 0, .int .i64 0, .int .i64 0, .int .i64 0, .int .i64 0] 26))
  have hA := Lib.hid (Buf.then_ (Buf.then_ (new_block (w := w) (.cells #[.int .i64 a, .int .i64 b, .int .i64 c, .int .i64 d, .int .i64 e, .int .i64 f] 26)) (new_block (.cells #[.int .i64 0, .int .i64 0, .int .i64 0, .int .i64 0, .int .i64 0, .int .i64 0] 26))) (new_block (.cells #[.int .i64 0, .int .i64 0, .int .i64 0, .int .i64 0, .int .i64 0, .int .i64 0] 26)))
  go_enter Try.func44, Try.ntmps44
  go_wp2_with fail
  with_reducible refine (P.out _).mono ?_
  rintro r w1 ⟨rfl, hb⟩
  replace p2 := Lib.hid (blk_b hb p2.out)
  replace p3 := Lib.hid (blk_b hb p3.out)
  replace hA := Lib.hid (Buf.then_ hA.out hb)
  clear hb
  obtain ⟨e1, e2, e3, e4, e5, e6, e7, e8, e9, e10, e11, e12⟩ := cells6f p2.out
  obtain ⟨h1, h2, h3, h4, h5, h6, h7, h8, h9, h10, h11, h12⟩ := cells6f p3.out
  have y1 := Lib.hid (st6 ((st6_other w1 (k := w.heap.size + 1 + 1) (g := w.heap.size + 1) (by omega) (.int .i64 0) (.int .i64 0) (.int .i64 0) (.int .i64 0) (.int .i64 0) (.int .i64 0)).trans p3.out) (.int .i64 0) (.int .i64 0) (.int .i64 0) (.int .i64 0) (.int .i64 0) (.int .i64 0))
  have y2 := Lib.hid ((st6_other _ (k := w.heap.size + 1) (g := w.heap.size + 1 + 1) (by omega) (.int .i64 0) (.int .i64 0) (.int .i64 0) (.int .i64 0) (.int .i64 0) (.int .i64 0)).trans (st6 p2.out (.int .i64 0) (.int .i64 0) (.int .i64 0) (.int .i64 0) (.int .i64 0) (.int .i64 0)))
  have y3 := Lib.hid (st6_below (st6_below hA.out (g := w.heap.size + 1) (by omega) (.int .i64 0) (.int .i64 0) (.int .i64 0) (.int .i64 0) (.int .i64 0) (.int .i64 0)) (g := w.heap.size + 1 + 1) (by omega) (.int .i64 0) (.int .i64 0) (.int .i64 0) (.int .i64 0) (.int .i64 0) (.int .i64 0))
  go_wp2
  exact bodyPost_ret (results_two_rows_tmp rfl _ _ (w.heap.size + 1) (w.heap.size + 1 + 1) _ _ _ _ _ _ _ _ rfl y2.out rfl (by rfl) rfl rfl y1.out rfl (by rfl) rfl) rfl ⟨rfl, y3.out⟩
end Geo
end Go.Proofs.Ytldgihlhioeipaa

/- Split of the reference of layer 24. -/
set_option linter.unusedVariables false
set_option linter.unusedSimpArgs false
namespace Go.Proofs.Ytldgihlhioeipaa
open Go.RowKit
namespace Geo
theorem HD (v : World) : v.drew.heap = v.heap := rfl
set_option maxHeartbeats 8000000 in
set_option maxRecDepth 100000 in
theorem rsplit_A (a b c d e f : Int) (h : bvB a b c d e f = true) (h2 : 2 ≤ pts a b c d e f) (k1 : e - b ≤ d - a) (k2 : f - c ≤ d - a) (w : World) :
    Calls Try.prog 44 #[.agg #[.int .i64 a, .int .i64 b, .int .i64 c, .int .i64 d, .int .i64 e, .int .i64 f]] w fun r w' => r = .returned (.tuple #[.agg #[.int .i64 a, .int .i64 b, .int .i64 c, .int .i64 (a + (d - a) / 2), .int .i64 e, .int .i64 f], .agg #[.int .i64 ((a + (d - a) / 2) + 1), .int .i64 b, .int .i64 c, .int .i64 d, .int .i64 e, .int .i64 f], .bool true]) ∧ Below w.heap.size w w' := by
  have P := Lib.hid fun w => rpoints_2 a b c d e f h w
  have C := Lib.hid fun w => rcenter_2 a b c d e f h w
  obtain ⟨⟨ax0, ax1, ay0, ay1, az0, az1⟩, ⟨dx0, dx1, dy0, dy1, dz0, dz1⟩, hx, hy, hz⟩ := bvB_yes h
  clear h
  generalize pts a b c d e f = np at *
  obtain ⟨m0, hm0⟩ : ∃ m, m = a + (d - a) / 2 := ⟨_, rfl⟩
  obtain ⟨m1, hm1⟩ : ∃ m, m = b + (e - b) / 2 := ⟨_, rfl⟩
  obtain ⟨m2, hm2⟩ : ∃ m, m = c + (f - c) / 2 := ⟨_, rfl⟩
  rw [← hm0, ← hm1, ← hm2] at C
  rw [← hm0]
  have b0 : a ≤ m0 ∧ m0 ≤ d := by omega
  have b1 : b ≤ m1 ∧ m1 ≤ e := by omega
  have b2 : c ≤ m2 ∧ m2 ≤ f := by omega
  clear hm0 hm1 hm2
  have p1 := Lib.hid (blk_alloc (blk_alloc (blk_new w (.cells #[.int .i64 a, .int .i64 b, .int .i64 c, .int .i64 d, .int .i64 e, .int .i64 f] 26)) (.cells #[.int .i64 0, .int .i64 0, .int .i64 0, .int .i64 0, .int .i64 0, .int .i64 0] 26)) (.cells #[.int .i64 0, .int .i64 0, .int .i64 0, .int .i64 0, .int .i64 0, .int .i64 0] 26))
  have p2 := Lib.hid (blk_alloc (blk_new1 w (.cells #[.int .i64 a, .int .i64 b, .int .i64 c, .int .i64 d, .int .i64 e, .int .i64 f] 26) (.cells #[.int .i64 0, .int .i64 0, .int .i64 0, .int .i64 0, .int .i64 0, .int .i64 0] 26)) (.cells #[.int .i64 0, .int .i64 0, .int .i64 0, .int .i64 0, .int .i64 0, .int .i64 0] 26))
  have p3 := Lib.hid (blk_new2 w (.cells #[.int .i64 a, .int .i64 b, .int .i64 c, .int .i64 d, .int .i64 e, .int .i64 f] 26) (.cells #[.int .i64 0, .int .i64 0, .int .i64 0, .int .i64 0, .int .i64 0, .int .i64 0] 26) (.cells #[.int .i64 0, .int .i64 0, .int .i64 0, .int .i64 0, .int .i64 0, .int .i64 0] 26))
  have hA := Lib.hid (Buf.then_ (Buf.then_ (new_block (w := w) (.cells #[.int .i64 a, .int .i64 b, .int .i64 c, .int .i64 d, .int .i64 e, .int .i64 f] 26)) (new_block (.cells #[.int .i64 0, .int .i64 0, .int .i64 0, .int .i64 0, .int .i64 0, .int .i64 0] 26))) (new_block (.cells #[.int .i64 0, .int .i64 0, .int .i64 0, .int .i64 0, .int .i64 0, .int .i64 0] 26)))
  go_enter Try.func44, Try.ntmps44
  go_wp2_with fail
  with_reducible refine (P.out _).mono ?_
  rintro r w1 ⟨rfl, hb⟩
  replace p1 := Lib.hid (blk_b hb p1.out)
  replace p2 := Lib.hid (blk_b hb p2.out)
  replace p3 := Lib.hid (blk_b hb p3.out)
  replace hA := Lib.hid (Buf.then_ hA.out hb)
  clear hb
  obtain ⟨u1, u2, u3, u4, u5, u6⟩ := cells6 p1.out
  go_wp2_with fail
  go_quiet (fail)
  go_wp2_with fail
  with_reducible refine (C.out _).mono ?_
  rintro r w3 ⟨rfl, hb⟩
  replace hb : Below w1.heap.size w1 w3 := Buf.then_ (Buf.below_drewN (Below.refl _ _) _) hb
  replace p1 := Lib.hid (blk_b hb p1.out)
  replace p2 := Lib.hid (blk_b hb p2.out)
  replace p3 := Lib.hid (blk_b hb p3.out)
  replace hA := Lib.hid (Buf.then_ hA.out hb)
  clear hb u1 u2 u3 u4 u5 u6
  go_upto_region 5 with fail
  obtain ⟨w4, hw4⟩ : ∃ wz, wz = w3.alloc (.cells #[.int .i64 m0, .int .i64 m1, .int .i64 m2] 24) := ⟨_, rfl⟩
  obtain ⟨mb, hmb⟩ : ∃ z, z = w3.heap.size := ⟨_, rfl⟩
  have hb : Below w3.heap.size w3 w4 := by rw [hw4]; exact new_block _
  have km := Lib.hid (show w4.heap[mb]? = some (.cells #[.int .i64 m0, .int .i64 m1, .int .i64 m2] 24 (0, 0)) by rw [hw4, hmb]; exact blk_new w3 _)
  have hmb1 : w.heap.size + 2 < mb := by rw [hmb]; exact (Array.getElem?_eq_some_iff.1 p3.out).1
  have hmb2 : mb < w4.heap.size := (Array.getElem?_eq_some_iff.1 km.out).1
  rw [← hw4, ← hmb]
  replace p1 := Lib.hid (blk_b hb p1.out)
  replace p2 := Lib.hid (blk_b hb p2.out)
  replace p3 := Lib.hid (blk_b hb p3.out)
  replace hA := Lib.hid (Buf.then_ hA.out hb)
  clear hb hw4 hmb
  go_cut [9, 10] (fun v9 v10 wx => ∃ (p q : Nat) (wz : World), wz = wx ∧ p ≠ q ∧ w4.heap.size ≤ p ∧ w4.heap.size ≤ q ∧ v9 = .pointer (some ⟨p, 0, none⟩) ∧ v10 = .pointer (some ⟨q, 0, none⟩) ∧ Hid (wz.heap[p]? = some (.cells #[.int .i64 a, .int .i64 b, .int .i64 c, .int .i64 d, .int .i64 e, .int .i64 f] 26 (0, 0))) ∧ Hid (wz.heap[q]? = some (.cells #[.int .i64 a, .int .i64 b, .int .i64 c, .int .i64 d, .int .i64 e, .int .i64 f] 26 (0, 0))) ∧ Hid (Below w4.heap.size w4 wz))
  case first =>
    obtain ⟨u1, u2, u3, u4, u5, u6⟩ := cells6 p1.out
    have ne1 := World.new_ne w4 _ u1
    go_region_held3 (fun w' => w'.cell? ⟨w.heap.size, 0, none⟩ = some (.int .i64 a) ∧ w'.cell? ⟨w.heap.size, 1, none⟩ = some (.int .i64 b) ∧ w'.cell? ⟨w.heap.size, 2, none⟩ = some (.int .i64 c) ∧ w'.cell? ⟨w.heap.size, 3, none⟩ = some (.int .i64 d) ∧ w'.cell? ⟨w.heap.size, 4, none⟩ = some (.int .i64 e) ∧ w'.cell? ⟨w.heap.size, 5, none⟩ = some (.int .i64 f)) (go_keep) (fail)
    all_goals go_wp2_with fail
    all_goals go_meet
    · exact ⟨w4.heap.size, w4.heap.size + 1, _, rfl, by omega, by omega, by omega, rfl, rfl, Lib.hid (blk_alloc (blk_new w4 _) _), Lib.hid (blk_new1 w4 _ _), Lib.hid (Below.drew (Buf.then_ (new_block _) (new_block _)))⟩
    · exact ⟨w4.heap.size + 1, w4.heap.size, _, rfl, by omega, by omega, by omega, rfl, rfl, Lib.hid (blk_new1 w4 _ _), Lib.hid (blk_alloc (blk_new w4 _) _), Lib.hid (Below.drew (Buf.then_ (new_block _) (new_block _)))⟩
  case rest =>
    obtain ⟨p, q, wc, rfl, hpq, hp0, hq0, rfl, rfl, gp, gq, hb⟩ := hcut
    replace p2 := Lib.hid (blk_b hb.out p2.out)
    replace p3 := Lib.hid (blk_b hb.out p3.out)
    replace km := Lib.hid (blk_b hb.out km.out)
    replace hA := Lib.hid (Buf.then_ hA.out hb.out)
    clear hb p1
    obtain ⟨c1, c2, c3, _, _, _⟩ := cells3 km.out
    obtain ⟨g1, g2, g3, g4, g5, g6, g7, g8, g9, g10, g11, g12⟩ := cells6f gp.out
    obtain ⟨i1, i2, i3, i4, i5, i6, i7, i8, i9, i10, i11, i12⟩ := cells6f gq.out
    have hqp : q ≠ p := Ne.symm hpq
    have hmp : p ≠ mb := by omega
    have d1 : (wc.setCell ⟨p, 3, none⟩ (.int .i64 m0)).cell? ⟨mb, 0, none⟩ = some (.int .i64 m0) := by rw [World.cell?_setCell_far _ _ _ _ hmp]; exact c1
    have d2 : (wc.setCell ⟨p, 3, none⟩ (.int .i64 m0)).cell? ⟨q, 0, none⟩ = some (.int .i64 a) := by rw [World.cell?_setCell_far _ _ _ _ hpq]; exact i1
    have d3 : (wc.setCell ⟨p, 3, none⟩ (.int .i64 m0)).frozen? ⟨q, 0, none⟩ = false := by rw [World.frozen?_setCell]; exact i7
    go_wp2_with fail
    go_region
    obtain ⟨wz, hwz⟩ : ∃ wz, wz = ((wc.setCell ⟨p, 3, none⟩ (.int .i64 m0)).setCell ⟨q, 0, none⟩ (.int .i64 (m0 + 1))).drew := ⟨_, rfl⟩
    have zp : wz.heap[p]? = some (.cells #[.int .i64 a, .int .i64 b, .int .i64 c, .int .i64 m0, .int .i64 e, .int .i64 f] 26 (0, 0)) := by rw [hwz, HD, Below.heap_setCell _ _ _ p (by simpa using hpq)]; exact (heap_setCell_same _ p 3 _ _ _ gp.out).trans rfl
    have zq : wz.heap[q]? = some (.cells #[.int .i64 (m0 + 1), .int .i64 b, .int .i64 c, .int .i64 d, .int .i64 e, .int .i64 f] 26 (0, 0)) := by rw [hwz, HD]; exact (heap_setCell_same _ q 0 _ _ _ ((Below.heap_setCell _ _ _ q (by simpa using hqp)).trans gq.out)).trans rfl
    have z2 : wz.heap[w.heap.size + 1]? = some (.cells #[.int .i64 0, .int .i64 0, .int .i64 0, .int .i64 0, .int .i64 0, .int .i64 0] 26 (0, 0)) := by rw [hwz, HD, Below.heap_setCell _ _ _ _ (by simp; omega), Below.heap_setCell _ _ _ _ (by simp; omega)]; exact p2.out
    have z3 : wz.heap[w.heap.size + 1 + 1]? = some (.cells #[.int .i64 0, .int .i64 0, .int .i64 0, .int .i64 0, .int .i64 0, .int .i64 0] 26 (0, 0)) := by rw [hwz, HD, Below.heap_setCell _ _ _ _ (by simp; omega), Below.heap_setCell _ _ _ _ (by simp; omega)]; exact p3.out
    have z4 : Below w.heap.size w wz := by rw [hwz]; exact Below.drew ((hA.out.setCell (by simp; omega) _).setCell (by simp; omega) _)
    rw [← hwz]
    clear hwz c1 c2 c3 g1 g2 g3 g4 g5 g6 g7 g8 g9 g10 g11 g12 i1 i2 i3 i4 i5 i6 i7 i8 i9 i10 i11 i12 d1 d2 d3 gp gq p2 p3 hA km
    have n2p : p ≠ w.heap.size + 1 := by omega
    have n2q : q ≠ w.heap.size + 1 := by omega
    have n3p : p ≠ w.heap.size + 1 + 1 := by omega
    have n3q : q ≠ w.heap.size + 1 + 1 := by omega
    have n23 : w.heap.size + 1 ≠ w.heap.size + 1 + 1 := by omega
    have n32 : w.heap.size + 1 + 1 ≠ w.heap.size + 1 := by omega
    have h2b : w.heap.size ≤ w.heap.size + 1 := by omega
    have h3b : w.heap.size ≤ w.heap.size + 1 + 1 := by omega
    clear hp0 hq0 hpq hqp hmp
    replace zp := Lib.hid zp
    replace zq := Lib.hid zq
    replace z2 := Lib.hid z2
    replace z3 := Lib.hid z3
    replace z4 := Lib.hid z4
    go_wp2_with fail
    refine wp_region_noPanic ?_
    refine wp_region_any (by kernel_rfl) ?_
    refine InvS.wpAny_inv (fun k => false) [81, 82, 4] (fun w' => Hid (w'.heap[p]? = some (.cells #[.int .i64 a, .int .i64 b, .int .i64 c, .int .i64 m0, .int .i64 e, .int .i64 f] 26 (0, 0))) ∧ Hid (w'.heap[q]? = some (.cells #[.int .i64 (m0 + 1), .int .i64 b, .int .i64 c, .int .i64 d, .int .i64 e, .int .i64 f] 26 (0, 0))) ∧ (∃ cq_ : Array Value, cq_.size = (#[.int .i64 a, .int .i64 b, .int .i64 c, .int .i64 m0, .int .i64 e, .int .i64 f] : Array Value).size ∧ w'.heap[(w.heap.size + 1)]? = some (.cells cq_ 26 (0, 0))) ∧ (∃ cq_ : Array Value, cq_.size = (#[.int .i64 (m0 + 1), .int .i64 b, .int .i64 c, .int .i64 d, .int .i64 e, .int .i64 f] : Array Value).size ∧ w'.heap[(w.heap.size + 1 + 1)]? = some (.cells cq_ 26 (0, 0))) ∧ Hid (Below w.heap.size w w')) (fun k w1' w2' => (k ≠ 2 → w2'.heap[(w.heap.size + 1)]? = w1'.heap[(w.heap.size + 1)]?) ∧ (k ≠ 3 → w2'.heap[(w.heap.size + 1 + 1)]? = w1'.heap[(w.heap.size + 1 + 1)]?)) (fun k => ([fun s_ w_ => (s_ 81) = .agg #[.int .i64 a, .int .i64 b, .int .i64 c, .int .i64 m0, .int .i64 e, .int .i64 f], fun s_ w_ => (s_ 82) = .agg #[.int .i64 (m0 + 1), .int .i64 b, .int .i64 c, .int .i64 d, .int .i64 e, .int .i64 f], fun s_ w_ => w_.heap[(w.heap.size + 1)]? = some (.cells #[.int .i64 a, .int .i64 b, .int .i64 c, .int .i64 m0, .int .i64 e, .int .i64 f] 26 (0, 0)), fun s_ w_ => w_.heap[(w.heap.size + 1 + 1)]? = some (.cells #[.int .i64 (m0 + 1), .int .i64 b, .int .i64 c, .int .i64 d, .int .i64 e, .int .i64 f] 26 (0, 0)), fun s_ w_ => (s_ 4) = .bool true] : List ((Nat → Value) → World → Prop)).getD k (fun _ _ => True)) _ (fun σ => by simp only [Inv.putAll, List.foldl_cons, List.foldl_nil, Act.put, List.setIfInBounds_toArray, List.set_cons_zero, List.set_cons_succ]; rfl) (by kernel_rfl) (by kernel_rfl) ?_ ⟨zp, zq, ⟨#[.int .i64 0, .int .i64 0, .int .i64 0, .int .i64 0, .int .i64 0, .int .i64 0], rfl, z2.out⟩, ⟨#[.int .i64 0, .int .i64 0, .int .i64 0, .int .i64 0, .int .i64 0, .int .i64 0], rfl, z3.out⟩, Lib.hid (Below.drew z4.out)⟩ ?_ ?_ 0 #[true, true, true, true, true] (by kernel_rfl) (by kernel_rfl) ?_
    · intro j k oj σ v w1 w2 hoj hlj hjk hdp hv hr
      rcases k with _ | k
      · have hS : oj.dst ≠ some 81 := by
          clear hv hr
          rcases j with _ | _ | _ | _ | _ | j
          all_goals first | exact absurd rfl hjk | exact absurd hdp (by decide +kernel) | (simp only [List.getElem?_toArray, List.getElem?_cons_zero, List.getElem?_cons_succ, Option.some.injEq] at hoj; subst hoj; decide) | exact absurd (Array.getElem?_eq_some_iff.1 hoj).1 (by simp)
        simp only [List.getD_cons_zero, List.getD_cons_succ, InvS.updo_ne hS] at hv ⊢
        exact hv
      rcases k with _ | k
      · have hS : oj.dst ≠ some 82 := by
          clear hv hr
          rcases j with _ | _ | _ | _ | _ | j
          all_goals first | exact absurd rfl hjk | exact absurd hdp (by decide +kernel) | (simp only [List.getElem?_toArray, List.getElem?_cons_zero, List.getElem?_cons_succ, Option.some.injEq] at hoj; subst hoj; decide) | exact absurd (Array.getElem?_eq_some_iff.1 hoj).1 (by simp)
        simp only [List.getD_cons_zero, List.getD_cons_succ, InvS.updo_ne hS] at hv ⊢
        exact hv
      rcases k with _ | k
      · skip
        exact ((hr.1 hjk).trans hv)
      rcases k with _ | k
      · skip
        exact ((hr.2 hjk).trans hv)
      rcases k with _ | k
      · have hS : oj.dst ≠ some 4 := by
          clear hv hr
          rcases j with _ | _ | _ | _ | _ | j
          all_goals first | exact absurd rfl hjk | exact absurd hdp (by decide +kernel) | (simp only [List.getElem?_toArray, List.getElem?_cons_zero, List.getElem?_cons_succ, Option.some.injEq] at hoj; subst hoj; decide) | exact absurd (Array.getElem?_eq_some_iff.1 hoj).1 (by simp)
        simp only [List.getD_cons_zero, List.getD_cons_succ, InvS.updo_ne hS] at hv ⊢
        exact hv
      · exact trivial
    · intro k hl
      rcases k with _ | k
      · exact absurd hl (by decide +kernel)
      rcases k with _ | k
      · exact absurd hl (by decide +kernel)
      rcases k with _ | k
      · exact absurd hl (by decide +kernel)
      rcases k with _ | k
      · exact absurd hl (by decide +kernel)
      rcases k with _ | k
      · exact absurd hl (by decide +kernel)
      · exact trivial
    · show InvS.Steps _ _ _ _ _ _ _ _ [0, 1, 2, 3, 4]
      refine InvS.Steps.go (by decide) (by rfl) (fun σ wx hw hd K hK => ?_) ?_
      · simp only [List.getElem_toArray, List.getElem_cons_zero, List.getElem_cons_succ, Act.put, List.setIfInBounds_toArray, List.set_cons_zero, List.set_cons_succ] at hK ⊢
        obtain ⟨zp, zq, ⟨x2, X2, z2⟩, ⟨x3, X3, z3⟩, zb⟩ := hw
        refine wp_load_row 26 (.tmp 9) rfl p rfl 26 #[.int .i64 a, .int .i64 b, .int .i64 c, .int .i64 m0, .int .i64 e, .int .i64 f] (0, 0) _ zp.out rfl rfl rfl ?_
        simp only [Act.put, List.setIfInBounds_toArray, List.set_cons_zero, List.set_cons_succ]
        exact hK.out _ _ ⟨zp, zq, ⟨x2, X2, z2⟩, ⟨x3, X3, z3⟩, zb⟩ ⟨fun _ => rfl, fun _ => rfl⟩ (by rfl)
      refine InvS.Steps.go (by decide) (by rfl) (fun σ wx hw hd K hK => ?_) ?_
      · simp only [List.getElem_toArray, List.getElem_cons_zero, List.getElem_cons_succ, Act.put, List.setIfInBounds_toArray, List.set_cons_zero, List.set_cons_succ] at hK ⊢
        obtain ⟨zp, zq, ⟨x2, X2, z2⟩, ⟨x3, X3, z3⟩, zb⟩ := hw
        refine wp_load_row 26 (.tmp 10) rfl q rfl 26 #[.int .i64 (m0 + 1), .int .i64 b, .int .i64 c, .int .i64 d, .int .i64 e, .int .i64 f] (0, 0) _ zq.out rfl rfl rfl ?_
        simp only [Act.put, List.setIfInBounds_toArray, List.set_cons_zero, List.set_cons_succ]
        exact hK.out _ _ ⟨zp, zq, ⟨x2, X2, z2⟩, ⟨x3, X3, z3⟩, zb⟩ ⟨fun _ => rfl, fun _ => rfl⟩ (by rfl)
      refine InvS.Steps.go (by decide) (by rfl) (fun σ wx hw hd K hK => ?_) ?_
      · obtain e81 : (σ 81) = .agg #[.int .i64 a, .int .i64 b, .int .i64 c, .int .i64 m0, .int .i64 e, .int .i64 f] := hd 0 (some 81) (by kernel_rfl) (by rfl)
        simp only [List.getElem_toArray, List.getElem_cons_zero, List.getElem_cons_succ, Act.put, List.setIfInBounds_toArray, List.set_cons_zero, List.set_cons_succ, e81] at hK ⊢
        obtain ⟨zp, zq, ⟨x2, X2, z2⟩, ⟨x3, X3, z3⟩, zb⟩ := hw
        refine wp_store_row 26 (.tmp 2) (.tmp 81) rfl (w.heap.size + 1) #[.int .i64 a, .int .i64 b, .int .i64 c, .int .i64 m0, .int .i64 e, .int .i64 f] rfl rfl 26 x2 z2 rfl X2 (by simp [Value.oneCell']) ?_
        simp only [Act.put, List.setIfInBounds_toArray, List.set_cons_zero, List.set_cons_succ]
        exact hK.out undef _ ⟨Lib.hid ((setRow_other _ _ _ _ n2p).trans zp.out), Lib.hid ((setRow_other _ _ _ _ n2q).trans zq.out), ⟨_, rfl, setRow_heap _ _ _ _ _ _ z2⟩, ⟨x3, X3, (setRow_other _ _ _ _ n32).trans z3⟩, Lib.hid (below_setRow zb.out h2b _)⟩ ⟨fun h => absurd rfl h, fun _ => setRow_other _ _ _ _ n32⟩ (setRow_heap _ _ _ _ _ _ z2)
      refine InvS.Steps.go (by decide) (by rfl) (fun σ wx hw hd K hK => ?_) ?_
      · obtain e82 : (σ 82) = .agg #[.int .i64 (m0 + 1), .int .i64 b, .int .i64 c, .int .i64 d, .int .i64 e, .int .i64 f] := hd 1 (some 82) (by kernel_rfl) (by rfl)
        simp only [List.getElem_toArray, List.getElem_cons_zero, List.getElem_cons_succ, Act.put, List.setIfInBounds_toArray, List.set_cons_zero, List.set_cons_succ, e82] at hK ⊢
        obtain ⟨zp, zq, ⟨x2, X2, z2⟩, ⟨x3, X3, z3⟩, zb⟩ := hw
        refine wp_store_row 26 (.tmp 3) (.tmp 82) rfl (w.heap.size + 1 + 1) #[.int .i64 (m0 + 1), .int .i64 b, .int .i64 c, .int .i64 d, .int .i64 e, .int .i64 f] rfl rfl 26 x3 z3 rfl X3 (by simp [Value.oneCell']) ?_
        simp only [Act.put, List.setIfInBounds_toArray, List.set_cons_zero, List.set_cons_succ]
        exact hK.out undef _ ⟨Lib.hid ((setRow_other _ _ _ _ n3p).trans zp.out), Lib.hid ((setRow_other _ _ _ _ n3q).trans zq.out), ⟨x2, X2, (setRow_other _ _ _ _ n23).trans z2⟩, ⟨_, rfl, setRow_heap _ _ _ _ _ _ z3⟩, Lib.hid (below_setRow zb.out h3b _)⟩ ⟨fun _ => setRow_other _ _ _ _ n23, fun h => absurd rfl h⟩ (setRow_heap _ _ _ _ _ _ z3)
      refine InvS.Steps.go (by decide) (by rfl) (fun σ wx hw hd K hK => ?_) ?_
      · simp only [List.getElem_toArray, List.getElem_cons_zero, List.getElem_cons_succ, Act.put, List.setIfInBounds_toArray, List.set_cons_zero, List.set_cons_succ] at hK ⊢
        go_simp
        exact hK.out _ _ hw ⟨fun _ => rfl, fun _ => rfl⟩ (by rfl)
      exact InvS.Steps.nil
    · intro σ wx hw hd
      obtain E2 : wx.heap[(w.heap.size + 1)]? = some (.cells #[.int .i64 a, .int .i64 b, .int .i64 c, .int .i64 m0, .int .i64 e, .int .i64 f] 26 (0, 0)) := hd 2 (by decide) (by rfl)
      obtain E3 : wx.heap[(w.heap.size + 1 + 1)]? = some (.cells #[.int .i64 (m0 + 1), .int .i64 b, .int .i64 c, .int .i64 d, .int .i64 e, .int .i64 f] 26 (0, 0)) := hd 3 (by decide) (by rfl)
      obtain e4 : (σ 4) = .bool true := hd 4 (by decide) (by rfl)
      obtain ⟨_, _, _, _, zb⟩ := hw
      simp only [e4]
      clear hd
      refine Inv.done (by kernel_rfl) (NoPanic.normal ?_)
      go_wp2
      exact bodyPost_ret (results_two_rows_tmp rfl _ _ (w.heap.size + 1) (w.heap.size + 1 + 1) _ _ _ _ _ _ _ _ rfl E2 rfl (by rfl) rfl rfl E3 rfl (by rfl) rfl) rfl ⟨rfl, zb.out⟩
set_option maxHeartbeats 8000000 in
set_option maxRecDepth 100000 in
theorem rsplit_B (a b c d e f : Int) (h : bvB a b c d e f = true) (h2 : 2 ≤ pts a b c d e f) (k1 : e - b ≤ d - a) (k2 : d - a < f - c) (w : World) :
    Calls Try.prog 44 #[.agg #[.int .i64 a, .int .i64 b, .int .i64 c, .int .i64 d, .int .i64 e, .int .i64 f]] w fun r w' => r = .returned (.tuple #[.agg #[.int .i64 a, .int .i64 b, .int .i64 c, .int .i64 d, .int .i64 e, .int .i64 (c + (f - c) / 2)], .agg #[.int .i64 a, .int .i64 b, .int .i64 ((c + (f - c) / 2) + 1), .int .i64 d, .int .i64 e, .int .i64 f], .bool true]) ∧ Below w.heap.size w w' := by
  have P := Lib.hid fun w => rpoints_2 a b c d e f h w
  have C := Lib.hid fun w => rcenter_2 a b c d e f h w
  obtain ⟨⟨ax0, ax1, ay0, ay1, az0, az1⟩, ⟨dx0, dx1, dy0, dy1, dz0, dz1⟩, hx, hy, hz⟩ := bvB_yes h
  clear h
  generalize pts a b c d e f = np at *
  obtain ⟨m0, hm0⟩ : ∃ m, m = a + (d - a) / 2 := ⟨_, rfl⟩
  obtain ⟨m1, hm1⟩ : ∃ m, m = b + (e - b) / 2 := ⟨_, rfl⟩
  obtain ⟨m2, hm2⟩ : ∃ m, m = c + (f - c) / 2 := ⟨_, rfl⟩
  rw [← hm0, ← hm1, ← hm2] at C
  rw [← hm2]
  have b0 : a ≤ m0 ∧ m0 ≤ d := by omega
  have b1 : b ≤ m1 ∧ m1 ≤ e := by omega
  have b2 : c ≤ m2 ∧ m2 ≤ f := by omega
  clear hm0 hm1 hm2
  have p1 := Lib.hid (blk_alloc (blk_alloc (blk_new w (.cells #[.int .i64 a, .int .i64 b, .int .i64 c, .int .i64 d, .int .i64 e, .int .i64 f] 26)) (.cells #[.int .i64 0, .int .i64 0, .int .i64 0, .int .i64 0, .int .i64 0, .int .i64 0] 26)) (.cells #[.int .i64 0, .int .i64 0, .int .i64 0, .int .i64 0, .int .i64 0, .int .i64 0] 26))
  have p2 := Lib.hid (blk_alloc (blk_new1 w (.cells #[.int .i64 a, .int .i64 b, .int .i64 c, .int .i64 d, .int .i64 e, .int .i64 f] 26) (.cells #[.int .i64 0, .int .i64 0, .int .i64 0, .int .i64 0, .int .i64 0, .int .i64 0] 26)) (.cells #[.int .i64 0, .int .i64 0, .int .i64 0, .int .i64 0, .int .i64 0, .int .i64 0] 26))
  have p3 := Lib.hid (blk_new2 w (.cells #[.int .i64 a, .int .i64 b, .int .i64 c, .int .i64 d, .int .i64 e, .int .i64 f] 26) (.cells #[.int .i64 0, .int .i64 0, .int .i64 0, .int .i64 0, .int .i64 0, .int .i64 0] 26) (.cells #[.int .i64 0, .int .i64 0, .int .i64 0, .int .i64 0, .int .i64 0, .int .i64 0] 26))
  have hA := Lib.hid (Buf.then_ (Buf.then_ (new_block (w := w) (.cells #[.int .i64 a, .int .i64 b, .int .i64 c, .int .i64 d, .int .i64 e, .int .i64 f] 26)) (new_block (.cells #[.int .i64 0, .int .i64 0, .int .i64 0, .int .i64 0, .int .i64 0, .int .i64 0] 26))) (new_block (.cells #[.int .i64 0, .int .i64 0, .int .i64 0, .int .i64 0, .int .i64 0, .int .i64 0] 26)))
  go_enter Try.func44, Try.ntmps44
  go_wp2_with fail
  with_reducible refine (P.out _).mono ?_
  rintro r w1 ⟨rfl, hb⟩
  replace p1 := Lib.hid (blk_b hb p1.out)
  replace p2 := Lib.hid (blk_b hb p2.out)
  replace p3 := Lib.hid (blk_b hb p3.out)
  replace hA := Lib.hid (Buf.then_ hA.out hb)
  clear hb
  obtain ⟨u1, u2, u3, u4, u5, u6⟩ := cells6 p1.out
  go_wp2_with fail
  go_quiet (fail)
  go_wp2_with fail
  with_reducible refine (C.out _).mono ?_
  rintro r w3 ⟨rfl, hb⟩
  replace hb : Below w1.heap.size w1 w3 := Buf.then_ (Buf.below_drewN (Below.refl _ _) _) hb
  replace p1 := Lib.hid (blk_b hb p1.out)
  replace p2 := Lib.hid (blk_b hb p2.out)
  replace p3 := Lib.hid (blk_b hb p3.out)
  replace hA := Lib.hid (Buf.then_ hA.out hb)
  clear hb u1 u2 u3 u4 u5 u6
  go_upto_region 5 with fail
  obtain ⟨w4, hw4⟩ : ∃ wz, wz = w3.alloc (.cells #[.int .i64 m0, .int .i64 m1, .int .i64 m2] 24) := ⟨_, rfl⟩
  obtain ⟨mb, hmb⟩ : ∃ z, z = w3.heap.size := ⟨_, rfl⟩
  have hb : Below w3.heap.size w3 w4 := by rw [hw4]; exact new_block _
  have km := Lib.hid (show w4.heap[mb]? = some (.cells #[.int .i64 m0, .int .i64 m1, .int .i64 m2] 24 (0, 0)) by rw [hw4, hmb]; exact blk_new w3 _)
  have hmb1 : w.heap.size + 2 < mb := by rw [hmb]; exact (Array.getElem?_eq_some_iff.1 p3.out).1
  have hmb2 : mb < w4.heap.size := (Array.getElem?_eq_some_iff.1 km.out).1
  rw [← hw4, ← hmb]
  replace p1 := Lib.hid (blk_b hb p1.out)
  replace p2 := Lib.hid (blk_b hb p2.out)
  replace p3 := Lib.hid (blk_b hb p3.out)
  replace hA := Lib.hid (Buf.then_ hA.out hb)
  clear hb hw4 hmb
  go_cut [9, 10] (fun v9 v10 wx => ∃ (p q : Nat) (wz : World), wz = wx ∧ p ≠ q ∧ w4.heap.size ≤ p ∧ w4.heap.size ≤ q ∧ v9 = .pointer (some ⟨p, 0, none⟩) ∧ v10 = .pointer (some ⟨q, 0, none⟩) ∧ Hid (wz.heap[p]? = some (.cells #[.int .i64 a, .int .i64 b, .int .i64 c, .int .i64 d, .int .i64 e, .int .i64 f] 26 (0, 0))) ∧ Hid (wz.heap[q]? = some (.cells #[.int .i64 a, .int .i64 b, .int .i64 c, .int .i64 d, .int .i64 e, .int .i64 f] 26 (0, 0))) ∧ Hid (Below w4.heap.size w4 wz))
  case first =>
    obtain ⟨u1, u2, u3, u4, u5, u6⟩ := cells6 p1.out
    have ne1 := World.new_ne w4 _ u1
    go_region_held3 (fun w' => w'.cell? ⟨w.heap.size, 0, none⟩ = some (.int .i64 a) ∧ w'.cell? ⟨w.heap.size, 1, none⟩ = some (.int .i64 b) ∧ w'.cell? ⟨w.heap.size, 2, none⟩ = some (.int .i64 c) ∧ w'.cell? ⟨w.heap.size, 3, none⟩ = some (.int .i64 d) ∧ w'.cell? ⟨w.heap.size, 4, none⟩ = some (.int .i64 e) ∧ w'.cell? ⟨w.heap.size, 5, none⟩ = some (.int .i64 f)) (go_keep) (fail)
    all_goals go_wp2_with fail
    all_goals go_meet
    · exact ⟨w4.heap.size, w4.heap.size + 1, _, rfl, by omega, by omega, by omega, rfl, rfl, Lib.hid (blk_alloc (blk_new w4 _) _), Lib.hid (blk_new1 w4 _ _), Lib.hid (Below.drew (Buf.then_ (new_block _) (new_block _)))⟩
    · exact ⟨w4.heap.size + 1, w4.heap.size, _, rfl, by omega, by omega, by omega, rfl, rfl, Lib.hid (blk_new1 w4 _ _), Lib.hid (blk_alloc (blk_new w4 _) _), Lib.hid (Below.drew (Buf.then_ (new_block _) (new_block _)))⟩
  case rest =>
    obtain ⟨p, q, wc, rfl, hpq, hp0, hq0, rfl, rfl, gp, gq, hb⟩ := hcut
    replace p2 := Lib.hid (blk_b hb.out p2.out)
    replace p3 := Lib.hid (blk_b hb.out p3.out)
    replace km := Lib.hid (blk_b hb.out km.out)
    replace hA := Lib.hid (Buf.then_ hA.out hb.out)
    clear hb p1
    obtain ⟨c1, c2, c3, _, _, _⟩ := cells3 km.out
    obtain ⟨g1, g2, g3, g4, g5, g6, g7, g8, g9, g10, g11, g12⟩ := cells6f gp.out
    obtain ⟨i1, i2, i3, i4, i5, i6, i7, i8, i9, i10, i11, i12⟩ := cells6f gq.out
    have hqp : q ≠ p := Ne.symm hpq
    have hmp : p ≠ mb := by omega
    have d1 : (wc.setCell ⟨p, 5, none⟩ (.int .i64 m2)).cell? ⟨mb, 2, none⟩ = some (.int .i64 m2) := by rw [World.cell?_setCell_far _ _ _ _ hmp]; exact c3
    have d2 : (wc.setCell ⟨p, 5, none⟩ (.int .i64 m2)).cell? ⟨q, 2, none⟩ = some (.int .i64 c) := by rw [World.cell?_setCell_far _ _ _ _ hpq]; exact i3
    have d3 : (wc.setCell ⟨p, 5, none⟩ (.int .i64 m2)).frozen? ⟨q, 2, none⟩ = false := by rw [World.frozen?_setCell]; exact i9
    go_wp2_with fail
    go_region
    obtain ⟨wz, hwz⟩ : ∃ wz, wz = ((wc.setCell ⟨p, 5, none⟩ (.int .i64 m2)).setCell ⟨q, 2, none⟩ (.int .i64 (m2 + 1))).drew := ⟨_, rfl⟩
    have zp : wz.heap[p]? = some (.cells #[.int .i64 a, .int .i64 b, .int .i64 c, .int .i64 d, .int .i64 e, .int .i64 m2] 26 (0, 0)) := by rw [hwz, HD, Below.heap_setCell _ _ _ p (by simpa using hpq)]; exact (heap_setCell_same _ p 5 _ _ _ gp.out).trans rfl
    have zq : wz.heap[q]? = some (.cells #[.int .i64 a, .int .i64 b, .int .i64 (m2 + 1), .int .i64 d, .int .i64 e, .int .i64 f] 26 (0, 0)) := by rw [hwz, HD]; exact (heap_setCell_same _ q 2 _ _ _ ((Below.heap_setCell _ _ _ q (by simpa using hqp)).trans gq.out)).trans rfl
    have z2 : wz.heap[w.heap.size + 1]? = some (.cells #[.int .i64 0, .int .i64 0, .int .i64 0, .int .i64 0, .int .i64 0, .int .i64 0] 26 (0, 0)) := by rw [hwz, HD, Below.heap_setCell _ _ _ _ (by simp; omega), Below.heap_setCell _ _ _ _ (by simp; omega)]; exact p2.out
    have z3 : wz.heap[w.heap.size + 1 + 1]? = some (.cells #[.int .i64 0, .int .i64 0, .int .i64 0, .int .i64 0, .int .i64 0, .int .i64 0] 26 (0, 0)) := by rw [hwz, HD, Below.heap_setCell _ _ _ _ (by simp; omega), Below.heap_setCell _ _ _ _ (by simp; omega)]; exact p3.out
    have z4 : Below w.heap.size w wz := by rw [hwz]; exact Below.drew ((hA.out.setCell (by simp; omega) _).setCell (by simp; omega) _)
    rw [← hwz]
    clear hwz c1 c2 c3 g1 g2 g3 g4 g5 g6 g7 g8 g9 g10 g11 g12 i1 i2 i3 i4 i5 i6 i7 i8 i9 i10 i11 i12 d1 d2 d3 gp gq p2 p3 hA km
    have n2p : p ≠ w.heap.size + 1 := by omega
    have n2q : q ≠ w.heap.size + 1 := by omega
    have n3p : p ≠ w.heap.size + 1 + 1 := by omega
    have n3q : q ≠ w.heap.size + 1 + 1 := by omega
    have n23 : w.heap.size + 1 ≠ w.heap.size + 1 + 1 := by omega
    have n32 : w.heap.size + 1 + 1 ≠ w.heap.size + 1 := by omega
    have h2b : w.heap.size ≤ w.heap.size + 1 := by omega
    have h3b : w.heap.size ≤ w.heap.size + 1 + 1 := by omega
    clear hp0 hq0 hpq hqp hmp
    replace zp := Lib.hid zp
    replace zq := Lib.hid zq
    replace z2 := Lib.hid z2
    replace z3 := Lib.hid z3
    replace z4 := Lib.hid z4
    go_wp2_with fail
    refine wp_region_noPanic ?_
    refine wp_region_any (by kernel_rfl) ?_
    refine InvS.wpAny_inv (fun k => false) [81, 82, 4] (fun w' => Hid (w'.heap[p]? = some (.cells #[.int .i64 a, .int .i64 b, .int .i64 c, .int .i64 d, .int .i64 e, .int .i64 m2] 26 (0, 0))) ∧ Hid (w'.heap[q]? = some (.cells #[.int .i64 a, .int .i64 b, .int .i64 (m2 + 1), .int .i64 d, .int .i64 e, .int .i64 f] 26 (0, 0))) ∧ (∃ cq_ : Array Value, cq_.size = (#[.int .i64 a, .int .i64 b, .int .i64 c, .int .i64 d, .int .i64 e, .int .i64 m2] : Array Value).size ∧ w'.heap[(w.heap.size + 1)]? = some (.cells cq_ 26 (0, 0))) ∧ (∃ cq_ : Array Value, cq_.size = (#[.int .i64 a, .int .i64 b, .int .i64 (m2 + 1), .int .i64 d, .int .i64 e, .int .i64 f] : Array Value).size ∧ w'.heap[(w.heap.size + 1 + 1)]? = some (.cells cq_ 26 (0, 0))) ∧ Hid (Below w.heap.size w w')) (fun k w1' w2' => (k ≠ 2 → w2'.heap[(w.heap.size + 1)]? = w1'.heap[(w.heap.size + 1)]?) ∧ (k ≠ 3 → w2'.heap[(w.heap.size + 1 + 1)]? = w1'.heap[(w.heap.size + 1 + 1)]?)) (fun k => ([fun s_ w_ => (s_ 81) = .agg #[.int .i64 a, .int .i64 b, .int .i64 c, .int .i64 d, .int .i64 e, .int .i64 m2], fun s_ w_ => (s_ 82) = .agg #[.int .i64 a, .int .i64 b, .int .i64 (m2 + 1), .int .i64 d, .int .i64 e, .int .i64 f], fun s_ w_ => w_.heap[(w.heap.size + 1)]? = some (.cells #[.int .i64 a, .int .i64 b, .int .i64 c, .int .i64 d, .int .i64 e, .int .i64 m2] 26 (0, 0)), fun s_ w_ => w_.heap[(w.heap.size + 1 + 1)]? = some (.cells #[.int .i64 a, .int .i64 b, .int .i64 (m2 + 1), .int .i64 d, .int .i64 e, .int .i64 f] 26 (0, 0)), fun s_ w_ => (s_ 4) = .bool true] : List ((Nat → Value) → World → Prop)).getD k (fun _ _ => True)) _ (fun σ => by simp only [Inv.putAll, List.foldl_cons, List.foldl_nil, Act.put, List.setIfInBounds_toArray, List.set_cons_zero, List.set_cons_succ]; rfl) (by kernel_rfl) (by kernel_rfl) ?_ ⟨zp, zq, ⟨#[.int .i64 0, .int .i64 0, .int .i64 0, .int .i64 0, .int .i64 0, .int .i64 0], rfl, z2.out⟩, ⟨#[.int .i64 0, .int .i64 0, .int .i64 0, .int .i64 0, .int .i64 0, .int .i64 0], rfl, z3.out⟩, Lib.hid (Below.drew z4.out)⟩ ?_ ?_ 0 #[true, true, true, true, true] (by kernel_rfl) (by kernel_rfl) ?_
    · intro j k oj σ v w1 w2 hoj hlj hjk hdp hv hr
      rcases k with _ | k
      · have hS : oj.dst ≠ some 81 := by
          clear hv hr
          rcases j with _ | _ | _ | _ | _ | j
          all_goals first | exact absurd rfl hjk | exact absurd hdp (by decide +kernel) | (simp only [List.getElem?_toArray, List.getElem?_cons_zero, List.getElem?_cons_succ, Option.some.injEq] at hoj; subst hoj; decide) | exact absurd (Array.getElem?_eq_some_iff.1 hoj).1 (by simp)
        simp only [List.getD_cons_zero, List.getD_cons_succ, InvS.updo_ne hS] at hv ⊢
        exact hv
      rcases k with _ | k
      · have hS : oj.dst ≠ some 82 := by
          clear hv hr
          rcases j with _ | _ | _ | _ | _ | j
          all_goals first | exact absurd rfl hjk | exact absurd hdp (by decide +kernel) | (simp only [List.getElem?_toArray, List.getElem?_cons_zero, List.getElem?_cons_succ, Option.some.injEq] at hoj; subst hoj; decide) | exact absurd (Array.getElem?_eq_some_iff.1 hoj).1 (by simp)
        simp only [List.getD_cons_zero, List.getD_cons_succ, InvS.updo_ne hS] at hv ⊢
        exact hv
      rcases k with _ | k
      · skip
        exact ((hr.1 hjk).trans hv)
      rcases k with _ | k
      · skip
        exact ((hr.2 hjk).trans hv)
      rcases k with _ | k
      · have hS : oj.dst ≠ some 4 := by
          clear hv hr
          rcases j with _ | _ | _ | _ | _ | j
          all_goals first | exact absurd rfl hjk | exact absurd hdp (by decide +kernel) | (simp only [List.getElem?_toArray, List.getElem?_cons_zero, List.getElem?_cons_succ, Option.some.injEq] at hoj; subst hoj; decide) | exact absurd (Array.getElem?_eq_some_iff.1 hoj).1 (by simp)
        simp only [List.getD_cons_zero, List.getD_cons_succ, InvS.updo_ne hS] at hv ⊢
        exact hv
      · exact trivial
    · intro k hl
      rcases k with _ | k
      · exact absurd hl (by decide +kernel)
      rcases k with _ | k
      · exact absurd hl (by decide +kernel)
      rcases k with _ | k
      · exact absurd hl (by decide +kernel)
      rcases k with _ | k
      · exact absurd hl (by decide +kernel)
      rcases k with _ | k
      · exact absurd hl (by decide +kernel)
      · exact trivial
    · show InvS.Steps _ _ _ _ _ _ _ _ [0, 1, 2, 3, 4]
      refine InvS.Steps.go (by decide) (by rfl) (fun σ wx hw hd K hK => ?_) ?_
      · simp only [List.getElem_toArray, List.getElem_cons_zero, List.getElem_cons_succ, Act.put, List.setIfInBounds_toArray, List.set_cons_zero, List.set_cons_succ] at hK ⊢
        obtain ⟨zp, zq, ⟨x2, X2, z2⟩, ⟨x3, X3, z3⟩, zb⟩ := hw
        refine wp_load_row 26 (.tmp 9) rfl p rfl 26 #[.int .i64 a, .int .i64 b, .int .i64 c, .int .i64 d, .int .i64 e, .int .i64 m2] (0, 0) _ zp.out rfl rfl rfl ?_
        simp only [Act.put, List.setIfInBounds_toArray, List.set_cons_zero, List.set_cons_succ]
        exact hK.out _ _ ⟨zp, zq, ⟨x2, X2, z2⟩, ⟨x3, X3, z3⟩, zb⟩ ⟨fun _ => rfl, fun _ => rfl⟩ (by rfl)
      refine InvS.Steps.go (by decide) (by rfl) (fun σ wx hw hd K hK => ?_) ?_
      · simp only [List.getElem_toArray, List.getElem_cons_zero, List.getElem_cons_succ, Act.put, List.setIfInBounds_toArray, List.set_cons_zero, List.set_cons_succ] at hK ⊢
        obtain ⟨zp, zq, ⟨x2, X2, z2⟩, ⟨x3, X3, z3⟩, zb⟩ := hw
        refine wp_load_row 26 (.tmp 10) rfl q rfl 26 #[.int .i64 a, .int .i64 b, .int .i64 (m2 + 1), .int .i64 d, .int .i64 e, .int .i64 f] (0, 0) _ zq.out rfl rfl rfl ?_
        simp only [Act.put, List.setIfInBounds_toArray, List.set_cons_zero, List.set_cons_succ]
        exact hK.out _ _ ⟨zp, zq, ⟨x2, X2, z2⟩, ⟨x3, X3, z3⟩, zb⟩ ⟨fun _ => rfl, fun _ => rfl⟩ (by rfl)
      refine InvS.Steps.go (by decide) (by rfl) (fun σ wx hw hd K hK => ?_) ?_
      · obtain e81 : (σ 81) = .agg #[.int .i64 a, .int .i64 b, .int .i64 c, .int .i64 d, .int .i64 e, .int .i64 m2] := hd 0 (some 81) (by kernel_rfl) (by rfl)
        simp only [List.getElem_toArray, List.getElem_cons_zero, List.getElem_cons_succ, Act.put, List.setIfInBounds_toArray, List.set_cons_zero, List.set_cons_succ, e81] at hK ⊢
        obtain ⟨zp, zq, ⟨x2, X2, z2⟩, ⟨x3, X3, z3⟩, zb⟩ := hw
        refine wp_store_row 26 (.tmp 2) (.tmp 81) rfl (w.heap.size + 1) #[.int .i64 a, .int .i64 b, .int .i64 c, .int .i64 d, .int .i64 e, .int .i64 m2] rfl rfl 26 x2 z2 rfl X2 (by simp [Value.oneCell']) ?_
        simp only [Act.put, List.setIfInBounds_toArray, List.set_cons_zero, List.set_cons_succ]
        exact hK.out undef _ ⟨Lib.hid ((setRow_other _ _ _ _ n2p).trans zp.out), Lib.hid ((setRow_other _ _ _ _ n2q).trans zq.out), ⟨_, rfl, setRow_heap _ _ _ _ _ _ z2⟩, ⟨x3, X3, (setRow_other _ _ _ _ n32).trans z3⟩, Lib.hid (below_setRow zb.out h2b _)⟩ ⟨fun h => absurd rfl h, fun _ => setRow_other _ _ _ _ n32⟩ (setRow_heap _ _ _ _ _ _ z2)
      refine InvS.Steps.go (by decide) (by rfl) (fun σ wx hw hd K hK => ?_) ?_
      · obtain e82 : (σ 82) = .agg #[.int .i64 a, .int .i64 b, .int .i64 (m2 + 1), .int .i64 d, .int .i64 e, .int .i64 f] := hd 1 (some 82) (by kernel_rfl) (by rfl)
        simp only [List.getElem_toArray, List.getElem_cons_zero, List.getElem_cons_succ, Act.put, List.setIfInBounds_toArray, List.set_cons_zero, List.set_cons_succ, e82] at hK ⊢
        obtain ⟨zp, zq, ⟨x2, X2, z2⟩, ⟨x3, X3, z3⟩, zb⟩ := hw
        refine wp_store_row 26 (.tmp 3) (.tmp 82) rfl (w.heap.size + 1 + 1) #[.int .i64 a, .int .i64 b, .int .i64 (m2 + 1), .int .i64 d, .int .i64 e, .int .i64 f] rfl rfl 26 x3 z3 rfl X3 (by simp [Value.oneCell']) ?_
        simp only [Act.put, List.setIfInBounds_toArray, List.set_cons_zero, List.set_cons_succ]
        exact hK.out undef _ ⟨Lib.hid ((setRow_other _ _ _ _ n3p).trans zp.out), Lib.hid ((setRow_other _ _ _ _ n3q).trans zq.out), ⟨x2, X2, (setRow_other _ _ _ _ n23).trans z2⟩, ⟨_, rfl, setRow_heap _ _ _ _ _ _ z3⟩, Lib.hid (below_setRow zb.out h3b _)⟩ ⟨fun _ => setRow_other _ _ _ _ n23, fun h => absurd rfl h⟩ (setRow_heap _ _ _ _ _ _ z3)
      refine InvS.Steps.go (by decide) (by rfl) (fun σ wx hw hd K hK => ?_) ?_
      · simp only [List.getElem_toArray, List.getElem_cons_zero, List.getElem_cons_succ, Act.put, List.setIfInBounds_toArray, List.set_cons_zero, List.set_cons_succ] at hK ⊢
        go_simp
        exact hK.out _ _ hw ⟨fun _ => rfl, fun _ => rfl⟩ (by rfl)
      exact InvS.Steps.nil
    · intro σ wx hw hd
      obtain E2 : wx.heap[(w.heap.size + 1)]? = some (.cells #[.int .i64 a, .int .i64 b, .int .i64 c, .int .i64 d, .int .i64 e, .int .i64 m2] 26 (0, 0)) := hd 2 (by decide) (by rfl)
      obtain E3 : wx.heap[(w.heap.size + 1 + 1)]? = some (.cells #[.int .i64 a, .int .i64 b, .int .i64 (m2 + 1), .int .i64 d, .int .i64 e, .int .i64 f] 26 (0, 0)) := hd 3 (by decide) (by rfl)
      obtain e4 : (σ 4) = .bool true := hd 4 (by decide) (by rfl)
      obtain ⟨_, _, _, _, zb⟩ := hw
      simp only [e4]
      clear hd
      refine Inv.done (by kernel_rfl) (NoPanic.normal ?_)
      go_wp2
      exact bodyPost_ret (results_two_rows_tmp rfl _ _ (w.heap.size + 1) (w.heap.size + 1 + 1) _ _ _ _ _ _ _ _ rfl E2 rfl (by rfl) rfl rfl E3 rfl (by rfl) rfl) rfl ⟨rfl, zb.out⟩
set_option maxHeartbeats 8000000 in
set_option maxRecDepth 100000 in
theorem rsplit_C (a b c d e f : Int) (h : bvB a b c d e f = true) (h2 : 2 ≤ pts a b c d e f) (k1 : d - a < e - b) (k2 : f - c ≤ e - b) (w : World) :
    Calls Try.prog 44 #[.agg #[.int .i64 a, .int .i64 b, .int .i64 c, .int .i64 d, .int .i64 e, .int .i64 f]] w fun r w' => r = .returned (.tuple #[.agg #[.int .i64 a, .int .i64 b, .int .i64 c, .int .i64 d, .int .i64 (b + (e - b) / 2), .int .i64 f], .agg #[.int .i64 a, .int .i64 ((b + (e - b) / 2) + 1), .int .i64 c, .int .i64 d, .int .i64 e, .int .i64 f], .bool true]) ∧ Below w.heap.size w w' := by
  have P := Lib.hid fun w => rpoints_2 a b c d e f h w
  have C := Lib.hid fun w => rcenter_2 a b c d e f h w
  obtain ⟨⟨ax0, ax1, ay0, ay1, az0, az1⟩, ⟨dx0, dx1, dy0, dy1, dz0, dz1⟩, hx, hy, hz⟩ := bvB_yes h
  clear h
  generalize pts a b c d e f = np at *
  obtain ⟨m0, hm0⟩ : ∃ m, m = a + (d - a) / 2 := ⟨_, rfl⟩
  obtain ⟨m1, hm1⟩ : ∃ m, m = b + (e - b) / 2 := ⟨_, rfl⟩
  obtain ⟨m2, hm2⟩ : ∃ m, m = c + (f - c) / 2 := ⟨_, rfl⟩
  rw [← hm0, ← hm1, ← hm2] at C
  rw [← hm1]
  have b0 : a ≤ m0 ∧ m0 ≤ d := by omega
  have b1 : b ≤ m1 ∧ m1 ≤ e := by omega
  have b2 : c ≤ m2 ∧ m2 ≤ f := by omega
  clear hm0 hm1 hm2
  have p1 := Lib.hid (blk_alloc (blk_alloc (blk_new w (.cells #[.int .i64 a, .int .i64 b, .int .i64 c, .int .i64 d, .int .i64 e, .int .i64 f] 26)) (.cells #[.int .i64 0, .int .i64 0, .int .i64 0, .int .i64 0, .int .i64 0, .int .i64 0] 26)) (.cells #[.int .i64 0, .int .i64 0, .int .i64 0, .int .i64 0, .int .i64 0, .int .i64 0] 26))
  have p2 := Lib.hid (blk_alloc (blk_new1 w (.cells #[.int .i64 a, .int .i64 b, .int .i64 c, .int .i64 d, .int .i64 e, .int .i64 f] 26) (.cells #[.int .i64 0, .int .i64 0, .int .i64 0, .int .i64 0, .int .i64 0, .int .i64 0] 26)) (.cells #[.int .i64 0, .int .i64 0, .int .i64 0, .int .i64 0, .int .i64 0, .int .i64 0] 26))
  have p3 := Lib.hid (blk_new2 w (.cells #[.int .i64 a, .int .i64 b, .int .i64 c, .int .i64 d, .int .i64 e, .int .i64 f] 26) (.cells #[.int .i64 0, .int .i64 0, .int .i64 0, .int .i64 0, .int .i64 0, .int .i64 0] 26) (.cells #[.int .i64 0, .int .i64 0, .int .i64 0, .int .i64 0, .int .i64 0, .int .i64 0] 26))
  have hA := Lib.hid (Buf.then_ (Buf.then_ (new_block (w := w) (.cells #[.int .i64 a, .int .i64 b, .int .i64 c, .int .i64 d, .int .i64 e, .int .i64 f] 26)) (new_block (.cells #[.int .i64 0, .int .i64 0, .int .i64 0, .int .i64 0, .int .i64 0, .int .i64 0] 26))) (new_block (.cells #[.int .i64 0, .int .i64 0, .int .i64 0, .int .i64 0, .int .i64 0, .int .i64 0] 26)))
  go_enter Try.func44, Try.ntmps44
  go_wp2_with fail
  with_reducible refine (P.out _).mono ?_
  rintro r w1 ⟨rfl, hb⟩
  replace p1 := Lib.hid (blk_b hb p1.out)
  replace p2 := Lib.hid (blk_b hb p2.out)
  replace p3 := Lib.hid (blk_b hb p3.out)
  replace hA := Lib.hid (Buf.then_ hA.out hb)
  clear hb
  obtain ⟨u1, u2, u3, u4, u5, u6⟩ := cells6 p1.out
  go_wp2_with fail
  go_quiet (fail)
  go_wp2_with fail
  with_reducible refine (C.out _).mono ?_
  rintro r w3 ⟨rfl, hb⟩
  replace hb : Below w1.heap.size w1 w3 := Buf.then_ (Buf.below_drewN (Below.refl _ _) _) hb
  replace p1 := Lib.hid (blk_b hb p1.out)
  replace p2 := Lib.hid (blk_b hb p2.out)
  replace p3 := Lib.hid (blk_b hb p3.out)
  replace hA := Lib.hid (Buf.then_ hA.out hb)
  clear hb u1 u2 u3 u4 u5 u6
  go_upto_region 5 with fail
  obtain ⟨w4, hw4⟩ : ∃ wz, wz = w3.alloc (.cells #[.int .i64 m0, .int .i64 m1, .int .i64 m2] 24) := ⟨_, rfl⟩
  obtain ⟨mb, hmb⟩ : ∃ z, z = w3.heap.size := ⟨_, rfl⟩
  have hb : Below w3.heap.size w3 w4 := by rw [hw4]; exact new_block _
  have km := Lib.hid (show w4.heap[mb]? = some (.cells #[.int .i64 m0, .int .i64 m1, .int .i64 m2] 24 (0, 0)) by rw [hw4, hmb]; exact blk_new w3 _)
  have hmb1 : w.heap.size + 2 < mb := by rw [hmb]; exact (Array.getElem?_eq_some_iff.1 p3.out).1
  have hmb2 : mb < w4.heap.size := (Array.getElem?_eq_some_iff.1 km.out).1
  rw [← hw4, ← hmb]
  replace p1 := Lib.hid (blk_b hb p1.out)
  replace p2 := Lib.hid (blk_b hb p2.out)
  replace p3 := Lib.hid (blk_b hb p3.out)
  replace hA := Lib.hid (Buf.then_ hA.out hb)
  clear hb hw4 hmb
  go_cut [9, 10] (fun v9 v10 wx => ∃ (p q : Nat) (wz : World), wz = wx ∧ p ≠ q ∧ w4.heap.size ≤ p ∧ w4.heap.size ≤ q ∧ v9 = .pointer (some ⟨p, 0, none⟩) ∧ v10 = .pointer (some ⟨q, 0, none⟩) ∧ Hid (wz.heap[p]? = some (.cells #[.int .i64 a, .int .i64 b, .int .i64 c, .int .i64 d, .int .i64 e, .int .i64 f] 26 (0, 0))) ∧ Hid (wz.heap[q]? = some (.cells #[.int .i64 a, .int .i64 b, .int .i64 c, .int .i64 d, .int .i64 e, .int .i64 f] 26 (0, 0))) ∧ Hid (Below w4.heap.size w4 wz))
  case first =>
    obtain ⟨u1, u2, u3, u4, u5, u6⟩ := cells6 p1.out
    have ne1 := World.new_ne w4 _ u1
    go_region_held3 (fun w' => w'.cell? ⟨w.heap.size, 0, none⟩ = some (.int .i64 a) ∧ w'.cell? ⟨w.heap.size, 1, none⟩ = some (.int .i64 b) ∧ w'.cell? ⟨w.heap.size, 2, none⟩ = some (.int .i64 c) ∧ w'.cell? ⟨w.heap.size, 3, none⟩ = some (.int .i64 d) ∧ w'.cell? ⟨w.heap.size, 4, none⟩ = some (.int .i64 e) ∧ w'.cell? ⟨w.heap.size, 5, none⟩ = some (.int .i64 f)) (go_keep) (fail)
    all_goals go_wp2_with fail
    all_goals go_meet
    · exact ⟨w4.heap.size, w4.heap.size + 1, _, rfl, by omega, by omega, by omega, rfl, rfl, Lib.hid (blk_alloc (blk_new w4 _) _), Lib.hid (blk_new1 w4 _ _), Lib.hid (Below.drew (Buf.then_ (new_block _) (new_block _)))⟩
    · exact ⟨w4.heap.size + 1, w4.heap.size, _, rfl, by omega, by omega, by omega, rfl, rfl, Lib.hid (blk_new1 w4 _ _), Lib.hid (blk_alloc (blk_new w4 _) _), Lib.hid (Below.drew (Buf.then_ (new_block _) (new_block _)))⟩
  case rest =>
    obtain ⟨p, q, wc, rfl, hpq, hp0, hq0, rfl, rfl, gp, gq, hb⟩ := hcut
    replace p2 := Lib.hid (blk_b hb.out p2.out)
    replace p3 := Lib.hid (blk_b hb.out p3.out)
    replace km := Lib.hid (blk_b hb.out km.out)
    replace hA := Lib.hid (Buf.then_ hA.out hb.out)
    clear hb p1
    obtain ⟨c1, c2, c3, _, _, _⟩ := cells3 km.out
    obtain ⟨g1, g2, g3, g4, g5, g6, g7, g8, g9, g10, g11, g12⟩ := cells6f gp.out
    obtain ⟨i1, i2, i3, i4, i5, i6, i7, i8, i9, i10, i11, i12⟩ := cells6f gq.out
    have hqp : q ≠ p := Ne.symm hpq
    have hmp : p ≠ mb := by omega
    have d1 : (wc.setCell ⟨p, 4, none⟩ (.int .i64 m1)).cell? ⟨mb, 1, none⟩ = some (.int .i64 m1) := by rw [World.cell?_setCell_far _ _ _ _ hmp]; exact c2
    have d2 : (wc.setCell ⟨p, 4, none⟩ (.int .i64 m1)).cell? ⟨q, 1, none⟩ = some (.int .i64 b) := by rw [World.cell?_setCell_far _ _ _ _ hpq]; exact i2
    have d3 : (wc.setCell ⟨p, 4, none⟩ (.int .i64 m1)).frozen? ⟨q, 1, none⟩ = false := by rw [World.frozen?_setCell]; exact i8
    go_wp2_with fail
    go_region
    obtain ⟨wz, hwz⟩ : ∃ wz, wz = ((wc.setCell ⟨p, 4, none⟩ (.int .i64 m1)).setCell ⟨q, 1, none⟩ (.int .i64 (m1 + 1))).drew := ⟨_, rfl⟩
    have zp : wz.heap[p]? = some (.cells #[.int .i64 a, .int .i64 b, .int .i64 c, .int .i64 d, .int .i64 m1, .int .i64 f] 26 (0, 0)) := by rw [hwz, HD, Below.heap_setCell _ _ _ p (by simpa using hpq)]; exact (heap_setCell_same _ p 4 _ _ _ gp.out).trans rfl
    have zq : wz.heap[q]? = some (.cells #[.int .i64 a, .int .i64 (m1 + 1), .int .i64 c, .int .i64 d, .int .i64 e, .int .i64 f] 26 (0, 0)) := by rw [hwz, HD]; exact (heap_setCell_same _ q 1 _ _ _ ((Below.heap_setCell _ _ _ q (by simpa using hqp)).trans gq.out)).trans rfl
    have z2 : wz.heap[w.heap.size + 1]? = some (.cells #[.int .i64 0, .int .i64 0, .int .i64 0, .int .i64 0, .int .i64 0, .int .i64 0] 26 (0, 0)) := by rw [hwz, HD, Below.heap_setCell _ _ _ _ (by simp; omega), Below.heap_setCell _ _ _ _ (by simp; omega)]; exact p2.out
    have z3 : wz.heap[w.heap.size + 1 + 1]? = some (.cells #[.int .i64 0, .int .i64 0, .int .i64 0, .int .i64 0, .int .i64 0, .int .i64 0] 26 (0, 0)) := by rw [hwz, HD, Below.heap_setCell _ _ _ _ (by simp; omega), Below.heap_setCell _ _ _ _ (by simp; omega)]; exact p3.out
    have z4 : Below w.heap.size w wz := by rw [hwz]; exact Below.drew ((hA.out.setCell (by simp; omega) _).setCell (by simp; omega) _)
    rw [← hwz]
    clear hwz c1 c2 c3 g1 g2 g3 g4 g5 g6 g7 g8 g9 g10 g11 g12 i1 i2 i3 i4 i5 i6 i7 i8 i9 i10 i11 i12 d1 d2 d3 gp gq p2 p3 hA km
    have n2p : p ≠ w.heap.size + 1 := by omega
    have n2q : q ≠ w.heap.size + 1 := by omega
    have n3p : p ≠ w.heap.size + 1 + 1 := by omega
    have n3q : q ≠ w.heap.size + 1 + 1 := by omega
    have n23 : w.heap.size + 1 ≠ w.heap.size + 1 + 1 := by omega
    have n32 : w.heap.size + 1 + 1 ≠ w.heap.size + 1 := by omega
    have h2b : w.heap.size ≤ w.heap.size + 1 := by omega
    have h3b : w.heap.size ≤ w.heap.size + 1 + 1 := by omega
    clear hp0 hq0 hpq hqp hmp
    replace zp := Lib.hid zp
    replace zq := Lib.hid zq
    replace z2 := Lib.hid z2
    replace z3 := Lib.hid z3
    replace z4 := Lib.hid z4
    go_wp2_with fail
    refine wp_region_noPanic ?_
    refine wp_region_any (by kernel_rfl) ?_
    refine InvS.wpAny_inv (fun k => false) [81, 82, 4] (fun w' => Hid (w'.heap[p]? = some (.cells #[.int .i64 a, .int .i64 b, .int .i64 c, .int .i64 d, .int .i64 m1, .int .i64 f] 26 (0, 0))) ∧ Hid (w'.heap[q]? = some (.cells #[.int .i64 a, .int .i64 (m1 + 1), .int .i64 c, .int .i64 d, .int .i64 e, .int .i64 f] 26 (0, 0))) ∧ (∃ cq_ : Array Value, cq_.size = (#[.int .i64 a, .int .i64 b, .int .i64 c, .int .i64 d, .int .i64 m1, .int .i64 f] : Array Value).size ∧ w'.heap[(w.heap.size + 1)]? = some (.cells cq_ 26 (0, 0))) ∧ (∃ cq_ : Array Value, cq_.size = (#[.int .i64 a, .int .i64 (m1 + 1), .int .i64 c, .int .i64 d, .int .i64 e, .int .i64 f] : Array Value).size ∧ w'.heap[(w.heap.size + 1 + 1)]? = some (.cells cq_ 26 (0, 0))) ∧ Hid (Below w.heap.size w w')) (fun k w1' w2' => (k ≠ 2 → w2'.heap[(w.heap.size + 1)]? = w1'.heap[(w.heap.size + 1)]?) ∧ (k ≠ 3 → w2'.heap[(w.heap.size + 1 + 1)]? = w1'.heap[(w.heap.size + 1 + 1)]?)) (fun k => ([fun s_ w_ => (s_ 81) = .agg #[.int .i64 a, .int .i64 b, .int .i64 c, .int .i64 d, .int .i64 m1, .int .i64 f], fun s_ w_ => (s_ 82) = .agg #[.int .i64 a, .int .i64 (m1 + 1), .int .i64 c, .int .i64 d, .int .i64 e, .int .i64 f], fun s_ w_ => w_.heap[(w.heap.size + 1)]? = some (.cells #[.int .i64 a, .int .i64 b, .int .i64 c, .int .i64 d, .int .i64 m1, .int .i64 f] 26 (0, 0)), fun s_ w_ => w_.heap[(w.heap.size + 1 + 1)]? = some (.cells #[.int .i64 a, .int .i64 (m1 + 1), .int .i64 c, .int .i64 d, .int .i64 e, .int .i64 f] 26 (0, 0)), fun s_ w_ => (s_ 4) = .bool true] : List ((Nat → Value) → World → Prop)).getD k (fun _ _ => True)) _ (fun σ => by simp only [Inv.putAll, List.foldl_cons, List.foldl_nil, Act.put, List.setIfInBounds_toArray, List.set_cons_zero, List.set_cons_succ]; rfl) (by kernel_rfl) (by kernel_rfl) ?_ ⟨zp, zq, ⟨#[.int .i64 0, .int .i64 0, .int .i64 0, .int .i64 0, .int .i64 0, .int .i64 0], rfl, z2.out⟩, ⟨#[.int .i64 0, .int .i64 0, .int .i64 0, .int .i64 0, .int .i64 0, .int .i64 0], rfl, z3.out⟩, Lib.hid (Below.drew z4.out)⟩ ?_ ?_ 0 #[true, true, true, true, true] (by kernel_rfl) (by kernel_rfl) ?_
    · intro j k oj σ v w1 w2 hoj hlj hjk hdp hv hr
      rcases k with _ | k
      · have hS : oj.dst ≠ some 81 := by
          clear hv hr
          rcases j with _ | _ | _ | _ | _ | j
          all_goals first | exact absurd rfl hjk | exact absurd hdp (by decide +kernel) | (simp only [List.getElem?_toArray, List.getElem?_cons_zero, List.getElem?_cons_succ, Option.some.injEq] at hoj; subst hoj; decide) | exact absurd (Array.getElem?_eq_some_iff.1 hoj).1 (by simp)
        simp only [List.getD_cons_zero, List.getD_cons_succ, InvS.updo_ne hS] at hv ⊢
        exact hv
      rcases k with _ | k
      · have hS : oj.dst ≠ some 82 := by
          clear hv hr
          rcases j with _ | _ | _ | _ | _ | j
          all_goals first | exact absurd rfl hjk | exact absurd hdp (by decide +kernel) | (simp only [List.getElem?_toArray, List.getElem?_cons_zero, List.getElem?_cons_succ, Option.some.injEq] at hoj; subst hoj; decide) | exact absurd (Array.getElem?_eq_some_iff.1 hoj).1 (by simp)
        simp only [List.getD_cons_zero, List.getD_cons_succ, InvS.updo_ne hS] at hv ⊢
        exact hv
      rcases k with _ | k
      · skip
        exact ((hr.1 hjk).trans hv)
      rcases k with _ | k
      · skip
        exact ((hr.2 hjk).trans hv)
      rcases k with _ | k
      · have hS : oj.dst ≠ some 4 := by
          clear hv hr
          rcases j with _ | _ | _ | _ | _ | j
          all_goals first | exact absurd rfl hjk | exact absurd hdp (by decide +kernel) | (simp only [List.getElem?_toArray, List.getElem?_cons_zero, List.getElem?_cons_succ, Option.some.injEq] at hoj; subst hoj; decide) | exact absurd (Array.getElem?_eq_some_iff.1 hoj).1 (by simp)
        simp only [List.getD_cons_zero, List.getD_cons_succ, InvS.updo_ne hS] at hv ⊢
        exact hv
      · exact trivial
    · intro k hl
      rcases k with _ | k
      · exact absurd hl (by decide +kernel)
      rcases k with _ | k
      · exact absurd hl (by decide +kernel)
      rcases k with _ | k
      · exact absurd hl (by decide +kernel)
      rcases k with _ | k
      · exact absurd hl (by decide +kernel)
      rcases k with _ | k
      · exact absurd hl (by decide +kernel)
      · exact trivial
    · show InvS.Steps _ _ _ _ _ _ _ _ [0, 1, 2, 3, 4]
      refine InvS.Steps.go (by decide) (by rfl) (fun σ wx hw hd K hK => ?_) ?_
      · simp only [List.getElem_toArray, List.getElem_cons_zero, List.getElem_cons_succ, Act.put, List.setIfInBounds_toArray, List.set_cons_zero, List.set_cons_succ] at hK ⊢
        obtain ⟨zp, zq, ⟨x2, X2, z2⟩, ⟨x3, X3, z3⟩, zb⟩ := hw
        refine wp_load_row 26 (.tmp 9) rfl p rfl 26 #[.int .i64 a, .int .i64 b, .int .i64 c, .int .i64 d, .int .i64 m1, .int .i64 f] (0, 0) _ zp.out rfl rfl rfl ?_
        simp only [Act.put, List.setIfInBounds_toArray, List.set_cons_zero, List.set_cons_succ]
        exact hK.out _ _ ⟨zp, zq, ⟨x2, X2, z2⟩, ⟨x3, X3, z3⟩, zb⟩ ⟨fun _ => rfl, fun _ => rfl⟩ (by rfl)
      refine InvS.Steps.go (by decide) (by rfl) (fun σ wx hw hd K hK => ?_) ?_
      · simp only [List.getElem_toArray, List.getElem_cons_zero, List.getElem_cons_succ, Act.put, List.setIfInBounds_toArray, List.set_cons_zero, List.set_cons_succ] at hK ⊢
        obtain ⟨zp, zq, ⟨x2, X2, z2⟩, ⟨x3, X3, z3⟩, zb⟩ := hw
        refine wp_load_row 26 (.tmp 10) rfl q rfl 26 #[.int .i64 a, .int .i64 (m1 + 1), .int .i64 c, .int .i64 d, .int .i64 e, .int .i64 f] (0, 0) _ zq.out rfl rfl rfl ?_
        simp only [Act.put, List.setIfInBounds_toArray, List.set_cons_zero, List.set_cons_succ]
        exact hK.out _ _ ⟨zp, zq, ⟨x2, X2, z2⟩, ⟨x3, X3, z3⟩, zb⟩ ⟨fun _ => rfl, fun _ => rfl⟩ (by rfl)
      refine InvS.Steps.go (by decide) (by rfl) (fun σ wx hw hd K hK => ?_) ?_
      · obtain e81 : (σ 81) = .agg #[.int .i64 a, .int .i64 b, .int .i64 c, .int .i64 d, .int .i64 m1, .int .i64 f] := hd 0 (some 81) (by kernel_rfl) (by rfl)
        simp only [List.getElem_toArray, List.getElem_cons_zero, List.getElem_cons_succ, Act.put, List.setIfInBounds_toArray, List.set_cons_zero, List.set_cons_succ, e81] at hK ⊢
        obtain ⟨zp, zq, ⟨x2, X2, z2⟩, ⟨x3, X3, z3⟩, zb⟩ := hw
        refine wp_store_row 26 (.tmp 2) (.tmp 81) rfl (w.heap.size + 1) #[.int .i64 a, .int .i64 b, .int .i64 c, .int .i64 d, .int .i64 m1, .int .i64 f] rfl rfl 26 x2 z2 rfl X2 (by simp [Value.oneCell']) ?_
        simp only [Act.put, List.setIfInBounds_toArray, List.set_cons_zero, List.set_cons_succ]
        exact hK.out undef _ ⟨Lib.hid ((setRow_other _ _ _ _ n2p).trans zp.out), Lib.hid ((setRow_other _ _ _ _ n2q).trans zq.out), ⟨_, rfl, setRow_heap _ _ _ _ _ _ z2⟩, ⟨x3, X3, (setRow_other _ _ _ _ n32).trans z3⟩, Lib.hid (below_setRow zb.out h2b _)⟩ ⟨fun h => absurd rfl h, fun _ => setRow_other _ _ _ _ n32⟩ (setRow_heap _ _ _ _ _ _ z2)
      refine InvS.Steps.go (by decide) (by rfl) (fun σ wx hw hd K hK => ?_) ?_
      · obtain e82 : (σ 82) = .agg #[.int .i64 a, .int .i64 (m1 + 1), .int .i64 c, .int .i64 d, .int .i64 e, .int .i64 f] := hd 1 (some 82) (by kernel_rfl) (by rfl)
        simp only [List.getElem_toArray, List.getElem_cons_zero, List.getElem_cons_succ, Act.put, List.setIfInBounds_toArray, List.set_cons_zero, List.set_cons_succ, e82] at hK ⊢
        obtain ⟨zp, zq, ⟨x2, X2, z2⟩, ⟨x3, X3, z3⟩, zb⟩ := hw
        refine wp_store_row 26 (.tmp 3) (.tmp 82) rfl (w.heap.size + 1 + 1) #[.int .i64 a, .int .i64 (m1 + 1), .int .i64 c, .int .i64 d, .int .i64 e, .int .i64 f] rfl rfl 26 x3 z3 rfl X3 (by simp [Value.oneCell']) ?_
        simp only [Act.put, List.setIfInBounds_toArray, List.set_cons_zero, List.set_cons_succ]
        exact hK.out undef _ ⟨Lib.hid ((setRow_other _ _ _ _ n3p).trans zp.out), Lib.hid ((setRow_other _ _ _ _ n3q).trans zq.out), ⟨x2, X2, (setRow_other _ _ _ _ n23).trans z2⟩, ⟨_, rfl, setRow_heap _ _ _ _ _ _ z3⟩, Lib.hid (below_setRow zb.out h3b _)⟩ ⟨fun _ => setRow_other _ _ _ _ n23, fun h => absurd rfl h⟩ (setRow_heap _ _ _ _ _ _ z3)
      refine InvS.Steps.go (by decide) (by rfl) (fun σ wx hw hd K hK => ?_) ?_
      · simp only [List.getElem_toArray, List.getElem_cons_zero, List.getElem_cons_succ, Act.put, List.setIfInBounds_toArray, List.set_cons_zero, List.set_cons_succ] at hK ⊢
        go_simp
        exact hK.out _ _ hw ⟨fun _ => rfl, fun _ => rfl⟩ (by rfl)
      exact InvS.Steps.nil
    · intro σ wx hw hd
      obtain E2 : wx.heap[(w.heap.size + 1)]? = some (.cells #[.int .i64 a, .int .i64 b, .int .i64 c, .int .i64 d, .int .i64 m1, .int .i64 f] 26 (0, 0)) := hd 2 (by decide) (by rfl)
      obtain E3 : wx.heap[(w.heap.size + 1 + 1)]? = some (.cells #[.int .i64 a, .int .i64 (m1 + 1), .int .i64 c, .int .i64 d, .int .i64 e, .int .i64 f] 26 (0, 0)) := hd 3 (by decide) (by rfl)
      obtain e4 : (σ 4) = .bool true := hd 4 (by decide) (by rfl)
      obtain ⟨_, _, _, _, zb⟩ := hw
      simp only [e4]
      clear hd
      refine Inv.done (by kernel_rfl) (NoPanic.normal ?_)
      go_wp2
      exact bodyPost_ret (results_two_rows_tmp rfl _ _ (w.heap.size + 1) (w.heap.size + 1 + 1) _ _ _ _ _ _ _ _ rfl E2 rfl (by rfl) rfl rfl E3 rfl (by rfl) rfl) rfl ⟨rfl, zb.out⟩
set_option maxHeartbeats 8000000 in
set_option maxRecDepth 100000 in
theorem rsplit_D (a b c d e f : Int) (h : bvB a b c d e f = true) (h2 : 2 ≤ pts a b c d e f) (k1 : d - a < e - b) (k2 : e - b < f - c) (w : World) :
    Calls Try.prog 44 #[.agg #[.int .i64 a, .int .i64 b, .int .i64 c, .int .i64 d, .int .i64 e, .int .i64 f]] w fun r w' => r = .returned (.tuple #[.agg #[.int .i64 a, .int .i64 b, .int .i64 c, .int .i64 d, .int .i64 e, .int .i64 (c + (f - c) / 2)], .agg #[.int .i64 a, .int .i64 b, .int .i64 ((c + (f - c) / 2) + 1), .int .i64 d, .int .i64 e, .int .i64 f], .bool true]) ∧ Below w.heap.size w w' := by
  have P := Lib.hid fun w => rpoints_2 a b c d e f h w
  have C := Lib.hid fun w => rcenter_2 a b c d e f h w
  obtain ⟨⟨ax0, ax1, ay0, ay1, az0, az1⟩, ⟨dx0, dx1, dy0, dy1, dz0, dz1⟩, hx, hy, hz⟩ := bvB_yes h
  clear h
  generalize pts a b c d e f = np at *
  obtain ⟨m0, hm0⟩ : ∃ m, m = a + (d - a) / 2 := ⟨_, rfl⟩
  obtain ⟨m1, hm1⟩ : ∃ m, m = b + (e - b) / 2 := ⟨_, rfl⟩
  obtain ⟨m2, hm2⟩ : ∃ m, m = c + (f - c) / 2 := ⟨_, rfl⟩
  rw [← hm0, ← hm1, ← hm2] at C
  rw [← hm2]
  have b0 : a ≤ m0 ∧ m0 ≤ d := by omega
  have b1 : b ≤ m1 ∧ m1 ≤ e := by omega
  have b2 : c ≤ m2 ∧ m2 ≤ f := by omega
  clear hm0 hm1 hm2
  have p1 := Lib.hid (blk_alloc (blk_alloc (blk_new w (.cells #[.int .i64 a, .int .i64 b, .int .i64 c, .int .i64 d, .int .i64 e, .int .i64 f] 26)) (.cells #[.int .i64 0, .int .i64 0, .int .i64 0, .int .i64 0, .int .i64 0, .int .i64 0] 26)) (.cells #[.int .i64 0, .int .i64 0, .int .i64 0, .int .i64 0, .int .i64 0, .int .i64 0] 26))
  have p2 := Lib.hid (blk_alloc (blk_new1 w (.cells #[.int .i64 a, .int .i64 b, .int .i64 c, .int .i64 d, .int .i64 e, .int .i64 f] 26) (.cells #[.int .i64 0, .int .i64 0, .int .i64 0, .int .i64 0, .int .i64 0, .int .i64 0] 26)) (.cells #[.int .i64 0, .int .i64 0, .int .i64 0, .int .i64 0, .int .i64 0, .int .i64 0] 26))
  have p3 := Lib.hid (blk_new2 w (.cells #[.int .i64 a, .int .i64 b, .int .i64 c, .int .i64 d, .int .i64 e, .int .i64 f] 26) (.cells #[.int .i64 0, .int .i64 0, .int .i64 0, .int .i64 0, .int .i64 0, .int .i64 0] 26) (.cells #[.int .i64 0, .int .i64 0, .int .i64 0, .int .i64 0, .int .i64 0, .int .i64 0] 26))
  have hA := Lib.hid (Buf.then_ (Buf.then_ (new_block (w := w) (.cells #[.int .i64 a, .int .i64 b, .int .i64 c, .int .i64 d, .int .i64 e, .int .i64 f] 26)) (new_block (.cells #[.int .i64 0, .int .i64 0, .int .i64 0, .int .i64 0, .int .i64 0, .int .i64 0] 26))) (new_block (.cells #[.int .i64 0, .int .i64 0, .int .i64 0, .int .i64 0, .int .i64 0, .int .i64 0] 26)))
  go_enter Try.func44, Try.ntmps44
  go_wp2_with fail
  with_reducible refine (P.out _).mono ?_
  rintro r w1 ⟨rfl, hb⟩
  replace p1 := Lib.hid (blk_b hb p1.out)
  replace p2 := Lib.hid (blk_b hb p2.out)
  replace p3 := Lib.hid (blk_b hb p3.out)
  replace hA := Lib.hid (Buf.then_ hA.out hb)
  clear hb
  obtain ⟨u1, u2, u3, u4, u5, u6⟩ := cells6 p1.out
  go_wp2_with fail
  go_quiet (fail)
  go_wp2_with fail
  with_reducible refine (C.out _).mono ?_
  rintro r w3 ⟨rfl, hb⟩
  replace hb : Below w1.heap.size w1 w3 := Buf.then_ (Buf.below_drewN (Below.refl _ _) _) hb
  replace p1 := Lib.hid (blk_b hb p1.out)
  replace p2 := Lib.hid (blk_b hb p2.out)
  replace p3 := Lib.hid (blk_b hb p3.out)
  replace hA := Lib.hid (Buf.then_ hA.out hb)
  clear hb u1 u2 u3 u4 u5 u6
  go_upto_region 5 with fail
  obtain ⟨w4, hw4⟩ : ∃ wz, wz = w3.alloc (.cells #[.int .i64 m0, .int .i64 m1, .int .i64 m2] 24) := ⟨_, rfl⟩
  obtain ⟨mb, hmb⟩ : ∃ z, z = w3.heap.size := ⟨_, rfl⟩
  have hb : Below w3.heap.size w3 w4 := by rw [hw4]; exact new_block _
  have km := Lib.hid (show w4.heap[mb]? = some (.cells #[.int .i64 m0, .int .i64 m1, .int .i64 m2] 24 (0, 0)) by rw [hw4, hmb]; exact blk_new w3 _)
  have hmb1 : w.heap.size + 2 < mb := by rw [hmb]; exact (Array.getElem?_eq_some_iff.1 p3.out).1
  have hmb2 : mb < w4.heap.size := (Array.getElem?_eq_some_iff.1 km.out).1
  rw [← hw4, ← hmb]
  replace p1 := Lib.hid (blk_b hb p1.out)
  replace p2 := Lib.hid (blk_b hb p2.out)
  replace p3 := Lib.hid (blk_b hb p3.out)
  replace hA := Lib.hid (Buf.then_ hA.out hb)
  clear hb hw4 hmb
  go_cut [9, 10] (fun v9 v10 wx => ∃ (p q : Nat) (wz : World), wz = wx ∧ p ≠ q ∧ w4.heap.size ≤ p ∧ w4.heap.size ≤ q ∧ v9 = .pointer (some ⟨p, 0, none⟩) ∧ v10 = .pointer (some ⟨q, 0, none⟩) ∧ Hid (wz.heap[p]? = some (.cells #[.int .i64 a, .int .i64 b, .int .i64 c, .int .i64 d, .int .i64 e, .int .i64 f] 26 (0, 0))) ∧ Hid (wz.heap[q]? = some (.cells #[.int .i64 a, .int .i64 b, .int .i64 c, .int .i64 d, .int .i64 e, .int .i64 f] 26 (0, 0))) ∧ Hid (Below w4.heap.size w4 wz))
  case first =>
    obtain ⟨u1, u2, u3, u4, u5, u6⟩ := cells6 p1.out
    have ne1 := World.new_ne w4 _ u1
    go_region_held3 (fun w' => w'.cell? ⟨w.heap.size, 0, none⟩ = some (.int .i64 a) ∧ w'.cell? ⟨w.heap.size, 1, none⟩ = some (.int .i64 b) ∧ w'.cell? ⟨w.heap.size, 2, none⟩ = some (.int .i64 c) ∧ w'.cell? ⟨w.heap.size, 3, none⟩ = some (.int .i64 d) ∧ w'.cell? ⟨w.heap.size, 4, none⟩ = some (.int .i64 e) ∧ w'.cell? ⟨w.heap.size, 5, none⟩ = some (.int .i64 f)) (go_keep) (fail)
    all_goals go_wp2_with fail
    all_goals go_meet
    · exact ⟨w4.heap.size, w4.heap.size + 1, _, rfl, by omega, by omega, by omega, rfl, rfl, Lib.hid (blk_alloc (blk_new w4 _) _), Lib.hid (blk_new1 w4 _ _), Lib.hid (Below.drew (Buf.then_ (new_block _) (new_block _)))⟩
    · exact ⟨w4.heap.size + 1, w4.heap.size, _, rfl, by omega, by omega, by omega, rfl, rfl, Lib.hid (blk_new1 w4 _ _), Lib.hid (blk_alloc (blk_new w4 _) _), Lib.hid (Below.drew (Buf.then_ (new_block _) (new_block _)))⟩
  case rest =>
    obtain ⟨p, q, wc, rfl, hpq, hp0, hq0, rfl, rfl, gp, gq, hb⟩ := hcut
    replace p2 := Lib.hid (blk_b hb.out p2.out)
    replace p3 := Lib.hid (blk_b hb.out p3.out)
    replace km := Lib.hid (blk_b hb.out km.out)
    replace hA := Lib.hid (Buf.then_ hA.out hb.out)
    clear hb p1
    obtain ⟨c1, c2, c3, _, _, _⟩ := cells3 km.out
    obtain ⟨g1, g2, g3, g4, g5, g6, g7, g8, g9, g10, g11, g12⟩ := cells6f gp.out
    obtain ⟨i1, i2, i3, i4, i5, i6, i7, i8, i9, i10, i11, i12⟩ := cells6f gq.out
    have hqp : q ≠ p := Ne.symm hpq
    have hmp : p ≠ mb := by omega
    have d1 : (wc.setCell ⟨p, 5, none⟩ (.int .i64 m2)).cell? ⟨mb, 2, none⟩ = some (.int .i64 m2) := by rw [World.cell?_setCell_far _ _ _ _ hmp]; exact c3
    have d2 : (wc.setCell ⟨p, 5, none⟩ (.int .i64 m2)).cell? ⟨q, 2, none⟩ = some (.int .i64 c) := by rw [World.cell?_setCell_far _ _ _ _ hpq]; exact i3
    have d3 : (wc.setCell ⟨p, 5, none⟩ (.int .i64 m2)).frozen? ⟨q, 2, none⟩ = false := by rw [World.frozen?_setCell]; exact i9
    go_wp2_with fail
    go_region
    obtain ⟨wz, hwz⟩ : ∃ wz, wz = ((wc.setCell ⟨p, 5, none⟩ (.int .i64 m2)).setCell ⟨q, 2, none⟩ (.int .i64 (m2 + 1))).drew := ⟨_, rfl⟩
    have zp : wz.heap[p]? = some (.cells #[.int .i64 a, .int .i64 b, .int .i64 c, .int .i64 d, .int .i64 e, .int .i64 m2] 26 (0, 0)) := by rw [hwz, HD, Below.heap_setCell _ _ _ p (by simpa using hpq)]; exact (heap_setCell_same _ p 5 _ _ _ gp.out).trans rfl
    have zq : wz.heap[q]? = some (.cells #[.int .i64 a, .int .i64 b, .int .i64 (m2 + 1), .int .i64 d, .int .i64 e, .int .i64 f] 26 (0, 0)) := by rw [hwz, HD]; exact (heap_setCell_same _ q 2 _ _ _ ((Below.heap_setCell _ _ _ q (by simpa using hqp)).trans gq.out)).trans rfl
    have z2 : wz.heap[w.heap.size + 1]? = some (.cells #[.int .i64 0, .int .i64 0, .int .i64 0, .int .i64 0, .int .i64 0, .int .i64 0] 26 (0, 0)) := by rw [hwz, HD, Below.heap_setCell _ _ _ _ (by simp; omega), Below.heap_setCell _ _ _ _ (by simp; omega)]; exact p2.out
    have z3 : wz.heap[w.heap.size + 1 + 1]? = some (.cells #[.int .i64 0, .int .i64 0, .int .i64 0, .int .i64 0, .int .i64 0, .int .i64 0] 26 (0, 0)) := by rw [hwz, HD, Below.heap_setCell _ _ _ _ (by simp; omega), Below.heap_setCell _ _ _ _ (by simp; omega)]; exact p3.out
    have z4 : Below w.heap.size w wz := by rw [hwz]; exact Below.drew ((hA.out.setCell (by simp; omega) _).setCell (by simp; omega) _)
    rw [← hwz]
    clear hwz c1 c2 c3 g1 g2 g3 g4 g5 g6 g7 g8 g9 g10 g11 g12 i1 i2 i3 i4 i5 i6 i7 i8 i9 i10 i11 i12 d1 d2 d3 gp gq p2 p3 hA km
    have n2p : p ≠ w.heap.size + 1 := by omega
    have n2q : q ≠ w.heap.size + 1 := by omega
    have n3p : p ≠ w.heap.size + 1 + 1 := by omega
    have n3q : q ≠ w.heap.size + 1 + 1 := by omega
    have n23 : w.heap.size + 1 ≠ w.heap.size + 1 + 1 := by omega
    have n32 : w.heap.size + 1 + 1 ≠ w.heap.size + 1 := by omega
    have h2b : w.heap.size ≤ w.heap.size + 1 := by omega
    have h3b : w.heap.size ≤ w.heap.size + 1 + 1 := by omega
    clear hp0 hq0 hpq hqp hmp
    replace zp := Lib.hid zp
    replace zq := Lib.hid zq
    replace z2 := Lib.hid z2
    replace z3 := Lib.hid z3
    replace z4 := Lib.hid z4
    go_wp2_with fail
    refine wp_region_noPanic ?_
    refine wp_region_any (by kernel_rfl) ?_
    refine InvS.wpAny_inv (fun k => false) [81, 82, 4] (fun w' => Hid (w'.heap[p]? = some (.cells #[.int .i64 a, .int .i64 b, .int .i64 c, .int .i64 d, .int .i64 e, .int .i64 m2] 26 (0, 0))) ∧ Hid (w'.heap[q]? = some (.cells #[.int .i64 a, .int .i64 b, .int .i64 (m2 + 1), .int .i64 d, .int .i64 e, .int .i64 f] 26 (0, 0))) ∧ (∃ cq_ : Array Value, cq_.size = (#[.int .i64 a, .int .i64 b, .int .i64 c, .int .i64 d, .int .i64 e, .int .i64 m2] : Array Value).size ∧ w'.heap[(w.heap.size + 1)]? = some (.cells cq_ 26 (0, 0))) ∧ (∃ cq_ : Array Value, cq_.size = (#[.int .i64 a, .int .i64 b, .int .i64 (m2 + 1), .int .i64 d, .int .i64 e, .int .i64 f] : Array Value).size ∧ w'.heap[(w.heap.size + 1 + 1)]? = some (.cells cq_ 26 (0, 0))) ∧ Hid (Below w.heap.size w w')) (fun k w1' w2' => (k ≠ 2 → w2'.heap[(w.heap.size + 1)]? = w1'.heap[(w.heap.size + 1)]?) ∧ (k ≠ 3 → w2'.heap[(w.heap.size + 1 + 1)]? = w1'.heap[(w.heap.size + 1 + 1)]?)) (fun k => ([fun s_ w_ => (s_ 81) = .agg #[.int .i64 a, .int .i64 b, .int .i64 c, .int .i64 d, .int .i64 e, .int .i64 m2], fun s_ w_ => (s_ 82) = .agg #[.int .i64 a, .int .i64 b, .int .i64 (m2 + 1), .int .i64 d, .int .i64 e, .int .i64 f], fun s_ w_ => w_.heap[(w.heap.size + 1)]? = some (.cells #[.int .i64 a, .int .i64 b, .int .i64 c, .int .i64 d, .int .i64 e, .int .i64 m2] 26 (0, 0)), fun s_ w_ => w_.heap[(w.heap.size + 1 + 1)]? = some (.cells #[.int .i64 a, .int .i64 b, .int .i64 (m2 + 1), .int .i64 d, .int .i64 e, .int .i64 f] 26 (0, 0)), fun s_ w_ => (s_ 4) = .bool true] : List ((Nat → Value) → World → Prop)).getD k (fun _ _ => True)) _ (fun σ => by simp only [Inv.putAll, List.foldl_cons, List.foldl_nil, Act.put, List.setIfInBounds_toArray, List.set_cons_zero, List.set_cons_succ]; rfl) (by kernel_rfl) (by kernel_rfl) ?_ ⟨zp, zq, ⟨#[.int .i64 0, .int .i64 0, .int .i64 0, .int .i64 0, .int .i64 0, .int .i64 0], rfl, z2.out⟩, ⟨#[.int .i64 0, .int .i64 0, .int .i64 0, .int .i64 0, .int .i64 0, .int .i64 0], rfl, z3.out⟩, Lib.hid (Below.drew z4.out)⟩ ?_ ?_ 0 #[true, true, true, true, true] (by kernel_rfl) (by kernel_rfl) ?_
    · intro j k oj σ v w1 w2 hoj hlj hjk hdp hv hr
      rcases k with _ | k
      · have hS : oj.dst ≠ some 81 := by
          clear hv hr
          rcases j with _ | _ | _ | _ | _ | j
          all_goals first | exact absurd rfl hjk | exact absurd hdp (by decide +kernel) | (simp only [List.getElem?_toArray, List.getElem?_cons_zero, List.getElem?_cons_succ, Option.some.injEq] at hoj; subst hoj; decide) | exact absurd (Array.getElem?_eq_some_iff.1 hoj).1 (by simp)
        simp only [List.getD_cons_zero, List.getD_cons_succ, InvS.updo_ne hS] at hv ⊢
        exact hv
      rcases k with _ | k
      · have hS : oj.dst ≠ some 82 := by
          clear hv hr
          rcases j with _ | _ | _ | _ | _ | j
          all_goals first | exact absurd rfl hjk | exact absurd hdp (by decide +kernel) | (simp only [List.getElem?_toArray, List.getElem?_cons_zero, List.getElem?_cons_succ, Option.some.injEq] at hoj; subst hoj; decide) | exact absurd (Array.getElem?_eq_some_iff.1 hoj).1 (by simp)
        simp only [List.getD_cons_zero, List.getD_cons_succ, InvS.updo_ne hS] at hv ⊢
        exact hv
      rcases k with _ | k
      · skip
        exact ((hr.1 hjk).trans hv)
      rcases k with _ | k
      · skip
        exact ((hr.2 hjk).trans hv)
      rcases k with _ | k
      · have hS : oj.dst ≠ some 4 := by
          clear hv hr
          rcases j with _ | _ | _ | _ | _ | j
          all_goals first | exact absurd rfl hjk | exact absurd hdp (by decide +kernel) | (simp only [List.getElem?_toArray, List.getElem?_cons_zero, List.getElem?_cons_succ, Option.some.injEq] at hoj; subst hoj; decide) | exact absurd (Array.getElem?_eq_some_iff.1 hoj).1 (by simp)
        simp only [List.getD_cons_zero, List.getD_cons_succ, InvS.updo_ne hS] at hv ⊢
        exact hv
      · exact trivial
    · intro k hl
      rcases k with _ | k
      · exact absurd hl (by decide +kernel)
      rcases k with _ | k
      · exact absurd hl (by decide +kernel)
      rcases k with _ | k
      · exact absurd hl (by decide +kernel)
      rcases k with _ | k
      · exact absurd hl (by decide +kernel)
      rcases k with _ | k
      · exact absurd hl (by decide +kernel)
      · exact trivial
    · show InvS.Steps _ _ _ _ _ _ _ _ [0, 1, 2, 3, 4]
      refine InvS.Steps.go (by decide) (by rfl) (fun σ wx hw hd K hK => ?_) ?_
      · simp only [List.getElem_toArray, List.getElem_cons_zero, List.getElem_cons_succ, Act.put, List.setIfInBounds_toArray, List.set_cons_zero, List.set_cons_succ] at hK ⊢
        obtain ⟨zp, zq, ⟨x2, X2, z2⟩, ⟨x3, X3, z3⟩, zb⟩ := hw
        refine wp_load_row 26 (.tmp 9) rfl p rfl 26 #[.int .i64 a, .int .i64 b, .int .i64 c, .int .i64 d, .int .i64 e, .int .i64 m2] (0, 0) _ zp.out rfl rfl rfl ?_
        simp only [Act.put, List.setIfInBounds_toArray, List.set_cons_zero, List.set_cons_succ]
        exact hK.out _ _ ⟨zp, zq, ⟨x2, X2, z2⟩, ⟨x3, X3, z3⟩, zb⟩ ⟨fun _ => rfl, fun _ => rfl⟩ (by rfl)
      refine InvS.Steps.go (by decide) (by rfl) (fun σ wx hw hd K hK => ?_) ?_
      · simp only [List.getElem_toArray, List.getElem_cons_zero, List.getElem_cons_succ, Act.put, List.setIfInBounds_toArray, List.set_cons_zero, List.set_cons_succ] at hK ⊢
        obtain ⟨zp, zq, ⟨x2, X2, z2⟩, ⟨x3, X3, z3⟩, zb⟩ := hw
        refine wp_load_row 26 (.tmp 10) rfl q rfl 26 #[.int .i64 a, .int .i64 b, .int .i64 (m2 + 1), .int .i64 d, .int .i64 e, .int .i64 f] (0, 0) _ zq.out rfl rfl rfl ?_
        simp only [Act.put, List.setIfInBounds_toArray, List.set_cons_zero, List.set_cons_succ]
        exact hK.out _ _ ⟨zp, zq, ⟨x2, X2, z2⟩, ⟨x3, X3, z3⟩, zb⟩ ⟨fun _ => rfl, fun _ => rfl⟩ (by rfl)
      refine InvS.Steps.go (by decide) (by rfl) (fun σ wx hw hd K hK => ?_) ?_
      · obtain e81 : (σ 81) = .agg #[.int .i64 a, .int .i64 b, .int .i64 c, .int .i64 d, .int .i64 e, .int .i64 m2] := hd 0 (some 81) (by kernel_rfl) (by rfl)
        simp only [List.getElem_toArray, List.getElem_cons_zero, List.getElem_cons_succ, Act.put, List.setIfInBounds_toArray, List.set_cons_zero, List.set_cons_succ, e81] at hK ⊢
        obtain ⟨zp, zq, ⟨x2, X2, z2⟩, ⟨x3, X3, z3⟩, zb⟩ := hw
        refine wp_store_row 26 (.tmp 2) (.tmp 81) rfl (w.heap.size + 1) #[.int .i64 a, .int .i64 b, .int .i64 c, .int .i64 d, .int .i64 e, .int .i64 m2] rfl rfl 26 x2 z2 rfl X2 (by simp [Value.oneCell']) ?_
        simp only [Act.put, List.setIfInBounds_toArray, List.set_cons_zero, List.set_cons_succ]
        exact hK.out undef _ ⟨Lib.hid ((setRow_other _ _ _ _ n2p).trans zp.out), Lib.hid ((setRow_other _ _ _ _ n2q).trans zq.out), ⟨_, rfl, setRow_heap _ _ _ _ _ _ z2⟩, ⟨x3, X3, (setRow_other _ _ _ _ n32).trans z3⟩, Lib.hid (below_setRow zb.out h2b _)⟩ ⟨fun h => absurd rfl h, fun _ => setRow_other _ _ _ _ n32⟩ (setRow_heap _ _ _ _ _ _ z2)
      refine InvS.Steps.go (by decide) (by rfl) (fun σ wx hw hd K hK => ?_) ?_
      · obtain e82 : (σ 82) = .agg #[.int .i64 a, .int .i64 b, .int .i64 (m2 + 1), .int .i64 d, .int .i64 e, .int .i64 f] := hd 1 (some 82) (by kernel_rfl) (by rfl)
        simp only [List.getElem_toArray, List.getElem_cons_zero, List.getElem_cons_succ, Act.put, List.setIfInBounds_toArray, List.set_cons_zero, List.set_cons_succ, e82] at hK ⊢
        obtain ⟨zp, zq, ⟨x2, X2, z2⟩, ⟨x3, X3, z3⟩, zb⟩ := hw
        refine wp_store_row 26 (.tmp 3) (.tmp 82) rfl (w.heap.size + 1 + 1) #[.int .i64 a, .int .i64 b, .int .i64 (m2 + 1), .int .i64 d, .int .i64 e, .int .i64 f] rfl rfl 26 x3 z3 rfl X3 (by simp [Value.oneCell']) ?_
        simp only [Act.put, List.setIfInBounds_toArray, List.set_cons_zero, List.set_cons_succ]
        exact hK.out undef _ ⟨Lib.hid ((setRow_other _ _ _ _ n3p).trans zp.out), Lib.hid ((setRow_other _ _ _ _ n3q).trans zq.out), ⟨x2, X2, (setRow_other _ _ _ _ n23).trans z2⟩, ⟨_, rfl, setRow_heap _ _ _ _ _ _ z3⟩, Lib.hid (below_setRow zb.out h3b _)⟩ ⟨fun _ => setRow_other _ _ _ _ n23, fun h => absurd rfl h⟩ (setRow_heap _ _ _ _ _ _ z3)
      refine InvS.Steps.go (by decide) (by rfl) (fun σ wx hw hd K hK => ?_) ?_
      · simp only [List.getElem_toArray, List.getElem_cons_zero, List.getElem_cons_succ, Act.put, List.setIfInBounds_toArray, List.set_cons_zero, List.set_cons_succ] at hK ⊢
        go_simp
        exact hK.out _ _ hw ⟨fun _ => rfl, fun _ => rfl⟩ (by rfl)
      exact InvS.Steps.nil
    · intro σ wx hw hd
      obtain E2 : wx.heap[(w.heap.size + 1)]? = some (.cells #[.int .i64 a, .int .i64 b, .int .i64 c, .int .i64 d, .int .i64 e, .int .i64 m2] 26 (0, 0)) := hd 2 (by decide) (by rfl)
      obtain E3 : wx.heap[(w.heap.size + 1 + 1)]? = some (.cells #[.int .i64 a, .int .i64 b, .int .i64 (m2 + 1), .int .i64 d, .int .i64 e, .int .i64 f] 26 (0, 0)) := hd 3 (by decide) (by rfl)
      obtain e4 : (σ 4) = .bool true := hd 4 (by decide) (by rfl)
      obtain ⟨_, _, _, _, zb⟩ := hw
      simp only [e4]
      clear hd
      refine Inv.done (by kernel_rfl) (NoPanic.normal ?_)
      go_wp2
      exact bodyPost_ret (results_two_rows_tmp rfl _ _ (w.heap.size + 1) (w.heap.size + 1 + 1) _ _ _ _ _ _ _ _ rfl E2 rfl (by rfl) rfl rfl E3 rfl (by rfl) rfl) rfl ⟨rfl, zb.out⟩
end Geo
end Go.Proofs.Ytldgihlhioeipaa

/- The order of positions; Valid of the reference. -/
namespace Go.Proofs.Ytldgihlhioeipaa
open Go.RowKit
namespace Geo
theorem sign_any (x y : Int) (w : World) : Calls Try.prog 63 #[.int .i64 x, .int .i64 y] w fun e w' => e = .returned (.int .i64 (cmpI x y)) ∧ w' = w := by
  rcases cmpI_cases x y with ⟨h, he⟩ | ⟨h, he⟩ | ⟨rfl, he⟩
  all_goals
    rw [he]
    clear he
    go_enter Try.func63, Try.ntmps63
    go_wp2
    go_ret
    exact ⟨rfl, rfl⟩
set_option maxHeartbeats 1000000 in
theorem rcompare_any (a b c d e f : Int) (w : World) :
    Calls Try.prog 43 #[.agg #[.int .i64 a, .int .i64 b, .int .i64 c], .agg #[.int .i64 d, .int .i64 e, .int .i64 f]] w fun r w' => r = .returned (.int .i64 (cmp3 (cmpI a d) (cmpI b e) (cmpI c f))) ∧ Below w.heap.size w w' := by
  have S1 := Lib.hid fun w => sign_any a d w
  have S2 := Lib.hid fun w => sign_any b e w
  have S3 := Lib.hid fun w => sign_any c f w
  have hW := Lib.hid (Buf.then_ (new_block (w := w) (.cells #[.int .i64 a, .int .i64 b, .int .i64 c] 24)) (new_block (.cells #[.int .i64 d, .int .i64 e, .int .i64 f] 24)))
  obtain ⟨k1, k2, k3, _, _, _⟩ := cells3 (blk_alloc (blk_new w (.cells #[.int .i64 a, .int .i64 b, .int .i64 c] 24)) (.cells #[.int .i64 d, .int .i64 e, .int .i64 f] 24))
  obtain ⟨l1, l2, l3, _, _, _⟩ := cells3 (blk_new1 w (.cells #[.int .i64 a, .int .i64 b, .int .i64 c] 24) (.cells #[.int .i64 d, .int .i64 e, .int .i64 f] 24))
  generalize cmpI a d = x at *
  generalize cmpI b e = y at *
  generalize cmpI c f = z at *
  by_cases hx : x = 0
  · subst hx
    by_cases hy : y = 0
    · subst hy
      rw [show cmp3 0 0 z = z from rfl]
      go_enter Try.func43, Try.ntmps43
      go_wp2_with (go_at_call 63; (first | with_reducible refine (S1.out _).mono ?_ | with_reducible refine (S2.out _).mono ?_ | with_reducible refine (S3.out _).mono ?_); rintro e w1 ⟨rfl, rfl⟩)
      go_ret
      exact ⟨rfl, hW.out⟩
    · rw [show cmp3 0 y z = y from by unfold cmp3; rw [if_pos rfl, if_neg hy]]
      have hy' : (y == 0) = false := by rw [beq_eq_false_iff_ne]; exact hy
      go_enter Try.func43, Try.ntmps43
      go_wp2_with (go_at_call 63; (first | with_reducible refine (S1.out _).mono ?_ | with_reducible refine (S2.out _).mono ?_ | with_reducible refine (S3.out _).mono ?_); rintro e w1 ⟨rfl, rfl⟩)
      go_ret
      exact ⟨rfl, hW.out⟩
  · rw [show cmp3 x y z = x from by unfold cmp3; rw [if_neg hx]]
    have hx' : (x == 0) = false := by rw [beq_eq_false_iff_ne]; exact hx
    go_enter Try.func43, Try.ntmps43
    go_wp2_with (go_at_call 63; (first | with_reducible refine (S1.out _).mono ?_ | with_reducible refine (S2.out _).mono ?_ | with_reducible refine (S3.out _).mono ?_); rintro e w1 ⟨rfl, rfl⟩)
    go_ret
    exact ⟨rfl, hW.out⟩
end Geo
end Go.Proofs.Ytldgihlhioeipaa

/- Layer 24: the program and the reference say the same. -/
set_option linter.unusedVariables false
set_option linter.unusedSimpArgs false
namespace Go.Proofs.Ytldgihlhioeipaa
open Go.RowKit
namespace Geo
end Geo
namespace Src
open Geo
def BoxEnd (e : Ending) : Prop := ∃ a b c d f g : Int, e = .returned (.agg #[.int .i64 a, .int .i64 b, .int .i64 c, .int .i64 d, .int .i64 f, .int .i64 g])
set_option maxHeartbeats 4000000 in
set_option maxRecDepth 100000 in
theorem bent_any {W w : World} {g : Nat} {a : Option Addr} {len cap : Nat} {zs : List Int} (a1 a2 a3 a4 a5 a6 : Int) (h : Di W w g a len cap zs) :
    Calls Try.prog 27 #[.pointer (some ⟨g, 0, none⟩), .agg #[.int .i64 a1, .int .i64 a2, .int .i64 a3, .int .i64 a4, .int .i64 a5, .int .i64 a6]] w fun e w' => BoxEnd e ∧ Left W w w' g a len cap zs := by
  obtain ⟨wb, hwb⟩ : ∃ wz, wz = (w.alloc (.cells #[.int .i64 a1, .int .i64 a2, .int .i64 a3, .int .i64 a4, .int .i64 a5, .int .i64 a6] 26)).alloc (.cells #[.int .i64 0, .int .i64 0, .int .i64 0, .int .i64 0, .int .i64 0, .int .i64 0] 26) := ⟨_, rfl⟩
  have L0 := Lib.hid (show Left W w wb g a len cap zs by rw [hwb]; exact ((Left.refl h).alloc _).alloc _)
  have p1 := Lib.hid (show wb.heap[w.heap.size]? = some (.cells #[.int .i64 a1, .int .i64 a2, .int .i64 a3, .int .i64 a4, .int .i64 a5, .int .i64 a6] 26 (0, 0)) by rw [hwb]; exact blk_alloc (blk_new w _) _)
  have p2 := Lib.hid (show wb.heap[w.heap.size + 1]? = some (.cells #[.int .i64 0, .int .i64 0, .int .i64 0, .int .i64 0, .int .i64 0, .int .i64 0] 26 (0, 0)) by rw [hwb]; exact blk_new1 w _ _)
  have n1 : w.heap.size ≠ g := by have := h.lt; omega
  have n2 : w.heap.size + 1 ≠ g := by have := h.lt; omega
  have h0 := Lib.hid h
  clear h
  go_enter Try.func27, Try.ntmps27
  go_upto_region 1 with fail
  rw [← hwb]
  clear hwb
  go_wp2_with fail
  refine (pick_any wb.heap.size [-1048577, -1048576, 0, -16385, -16384, 1048576, 1048577] 7 7 (L0.out.alloc _).di (ints_alloc wb [-1048577, -1048576, 0, -16385, -16384, 1048576, 1048577] 3) rfl (by omega) (by omega) (by have := L0.out.di.lt; omega) (by simp)).mono ?_
  rintro e w2 ⟨⟨od, rfl, _⟩, hl⟩
  replace p1 := Lib.hid (((Left.refl L0.out.di).alloc _ |>.trans hl).blk p1.out n1)
  replace p2 := Lib.hid (((Left.refl L0.out.di).alloc _ |>.trans hl).blk p2.out n2)
  replace L0 := Lib.hid ((L0.out.alloc _).trans hl)
  clear hl
  go_wp2_with fail
  refine (n_any 6 L0.out.di (by omega) (by omega)).mono ?_
  rintro e w3 ⟨⟨k, rfl, k0, k1⟩, hl⟩
  replace p1 := Lib.hid (hl.blk p1.out n1)
  replace p2 := Lib.hid (hl.blk p2.out n2)
  replace L0 := Lib.hid (L0.out.trans hl)
  clear hl
  obtain ⟨u1, u2, u3, u4, u5, u6, u7, u8, u9, u10, u11, u12⟩ := cells6f p1.out
  obtain ⟨e1, e2, e3, e4, e5, e6, e7, e8, e9, e10, e11, e12⟩ := cells6f p2.out
  rcases (show k = 0 ∨ k = 1 ∨ k = 2 ∨ k = 3 ∨ k = 4 ∨ k = 5 by omega) with rfl | rfl | rfl | rfl | rfl | rfl
  · have p1x := Lib.hid ((heap_setCell_same _ _ 0 _ _ (.int .i64 od) p1.out).trans rfl)
    have p2x := Lib.hid (show (w3.setCell ⟨w.heap.size, 0, none⟩ (.int .i64 od)).heap[w.heap.size + 1]? = _ from (Below.heap_setCell _ _ _ _ (by simp)).trans p2.out)
    obtain ⟨v1, v2, v3, v4, v5, v6⟩ := cells6 p1x.out
    obtain ⟨f1, f2, f3, f4, f5, f6, f7, f8, f9, f10, f11, f12⟩ := cells6f p2x.out
    go_wp2_with fail
    exact bodyPost_ret (results_cell_row rfl _ _ (w.heap.size + 1) _ _ _ _ rfl (st6 p2x.out (.int .i64 od) (.int .i64 a2) (.int .i64 a3) (.int .i64 a4) (.int .i64 a5) (.int .i64 a6)) rfl (by rfl) rfl) rfl ⟨⟨_, _, _, _, _, _, rfl⟩, Left.past h0.out L0.out (st6_below ((Below.refl _ w3).setCell (by simp) _) (by omega) (.int .i64 od) (.int .i64 a2) (.int .i64 a3) (.int .i64 a4) (.int .i64 a5) (.int .i64 a6))⟩
  · have p1x := Lib.hid ((heap_setCell_same _ _ 1 _ _ (.int .i64 od) p1.out).trans rfl)
    have p2x := Lib.hid (show (w3.setCell ⟨w.heap.size, 1, none⟩ (.int .i64 od)).heap[w.heap.size + 1]? = _ from (Below.heap_setCell _ _ _ _ (by simp)).trans p2.out)
    obtain ⟨v1, v2, v3, v4, v5, v6⟩ := cells6 p1x.out
    obtain ⟨f1, f2, f3, f4, f5, f6, f7, f8, f9, f10, f11, f12⟩ := cells6f p2x.out
    go_wp2_with fail
    exact bodyPost_ret (results_cell_row rfl _ _ (w.heap.size + 1) _ _ _ _ rfl (st6 p2x.out (.int .i64 a1) (.int .i64 od) (.int .i64 a3) (.int .i64 a4) (.int .i64 a5) (.int .i64 a6)) rfl (by rfl) rfl) rfl ⟨⟨_, _, _, _, _, _, rfl⟩, Left.past h0.out L0.out (st6_below ((Below.refl _ w3).setCell (by simp) _) (by omega) (.int .i64 a1) (.int .i64 od) (.int .i64 a3) (.int .i64 a4) (.int .i64 a5) (.int .i64 a6))⟩
  · have p1x := Lib.hid ((heap_setCell_same _ _ 2 _ _ (.int .i64 od) p1.out).trans rfl)
    have p2x := Lib.hid (show (w3.setCell ⟨w.heap.size, 2, none⟩ (.int .i64 od)).heap[w.heap.size + 1]? = _ from (Below.heap_setCell _ _ _ _ (by simp)).trans p2.out)
    obtain ⟨v1, v2, v3, v4, v5, v6⟩ := cells6 p1x.out
    obtain ⟨f1, f2, f3, f4, f5, f6, f7, f8, f9, f10, f11, f12⟩ := cells6f p2x.out
    go_wp2_with fail
    exact bodyPost_ret (results_cell_row rfl _ _ (w.heap.size + 1) _ _ _ _ rfl (st6 p2x.out (.int .i64 a1) (.int .i64 a2) (.int .i64 od) (.int .i64 a4) (.int .i64 a5) (.int .i64 a6)) rfl (by rfl) rfl) rfl ⟨⟨_, _, _, _, _, _, rfl⟩, Left.past h0.out L0.out (st6_below ((Below.refl _ w3).setCell (by simp) _) (by omega) (.int .i64 a1) (.int .i64 a2) (.int .i64 od) (.int .i64 a4) (.int .i64 a5) (.int .i64 a6))⟩
  · have p1x := Lib.hid ((heap_setCell_same _ _ 3 _ _ (.int .i64 od) p1.out).trans rfl)
    have p2x := Lib.hid (show (w3.setCell ⟨w.heap.size, 3, none⟩ (.int .i64 od)).heap[w.heap.size + 1]? = _ from (Below.heap_setCell _ _ _ _ (by simp)).trans p2.out)
    obtain ⟨v1, v2, v3, v4, v5, v6⟩ := cells6 p1x.out
    obtain ⟨f1, f2, f3, f4, f5, f6, f7, f8, f9, f10, f11, f12⟩ := cells6f p2x.out
    go_wp2_with fail
    exact bodyPost_ret (results_cell_row rfl _ _ (w.heap.size + 1) _ _ _ _ rfl (st6 p2x.out (.int .i64 a1) (.int .i64 a2) (.int .i64 a3) (.int .i64 od) (.int .i64 a5) (.int .i64 a6)) rfl (by rfl) rfl) rfl ⟨⟨_, _, _, _, _, _, rfl⟩, Left.past h0.out L0.out (st6_below ((Below.refl _ w3).setCell (by simp) _) (by omega) (.int .i64 a1) (.int .i64 a2) (.int .i64 a3) (.int .i64 od) (.int .i64 a5) (.int .i64 a6))⟩
  · have p1x := Lib.hid ((heap_setCell_same _ _ 4 _ _ (.int .i64 od) p1.out).trans rfl)
    have p2x := Lib.hid (show (w3.setCell ⟨w.heap.size, 4, none⟩ (.int .i64 od)).heap[w.heap.size + 1]? = _ from (Below.heap_setCell _ _ _ _ (by simp)).trans p2.out)
    obtain ⟨v1, v2, v3, v4, v5, v6⟩ := cells6 p1x.out
    obtain ⟨f1, f2, f3, f4, f5, f6, f7, f8, f9, f10, f11, f12⟩ := cells6f p2x.out
    go_wp2_with fail
    exact bodyPost_ret (results_cell_row rfl _ _ (w.heap.size + 1) _ _ _ _ rfl (st6 p2x.out (.int .i64 a1) (.int .i64 a2) (.int .i64 a3) (.int .i64 a4) (.int .i64 od) (.int .i64 a6)) rfl (by rfl) rfl) rfl ⟨⟨_, _, _, _, _, _, rfl⟩, Left.past h0.out L0.out (st6_below ((Below.refl _ w3).setCell (by simp) _) (by omega) (.int .i64 a1) (.int .i64 a2) (.int .i64 a3) (.int .i64 a4) (.int .i64 od) (.int .i64 a6))⟩
  · have p1x := Lib.hid ((heap_setCell_same _ _ 5 _ _ (.int .i64 od) p1.out).trans rfl)
    have p2x := Lib.hid (show (w3.setCell ⟨w.heap.size, 5, none⟩ (.int .i64 od)).heap[w.heap.size + 1]? = _ from (Below.heap_setCell _ _ _ _ (by simp)).trans p2.out)
    obtain ⟨v1, v2, v3, v4, v5, v6⟩ := cells6 p1x.out
    obtain ⟨f1, f2, f3, f4, f5, f6, f7, f8, f9, f10, f11, f12⟩ := cells6f p2x.out
    go_wp2_with fail
    exact bodyPost_ret (results_cell_row rfl _ _ (w.heap.size + 1) _ _ _ _ rfl (st6 p2x.out (.int .i64 a1) (.int .i64 a2) (.int .i64 a3) (.int .i64 a4) (.int .i64 a5) (.int .i64 od)) rfl (by rfl) rfl) rfl ⟨⟨_, _, _, _, _, _, rfl⟩, Left.past h0.out L0.out (st6_below ((Below.refl _ w3).setCell (by simp) _) (by omega) (.int .i64 a1) (.int .i64 a2) (.int .i64 a3) (.int .i64 a4) (.int .i64 a5) (.int .i64 od))⟩
end Src
end Go.Proofs.Ytldgihlhioeipaa
