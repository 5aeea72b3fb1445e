/- InvAB: texts joined. -/
import Derived.Orders
import Derived.Deep.RegionHeld3
/- A region that draws its order, by an invariant: each operation is shown once, whatever came before it. -/
namespace Go.Proofs.Ytldgihlhioeipaa
set_option linter.unusedVariables false
namespace Inv
section
variable {P : Program} {ops : Array Oper} {Q : Exit → Act → World → Prop} {md : Region.Mode}
/-- The frame with the values of some slots. -/
def putAll (a : Act) (ds : List Nat) (σ : Nat → Value) : Act := ds.foldl (fun a d => a.put (some d) (σ d)) a
def upd (σ : Nat → Value) (d : Nat) (v : Value) : Nat → Value := fun k => if k = d then v else σ k
theorem upd_same (σ : Nat → Value) (d : Nat) (v : Value) : upd σ d v d = v := by simp [upd]
theorem upd_ne (σ : Nat → Value) (d k : Nat) (v : Value) (h : k ≠ d) : upd σ d v k = σ k := by simp [upd, h]
theorem putAll_upd (ds : List Nat) (σ : Nat → Value) (d : Nat) (v : Value) (h : d ∉ ds) : ∀ a, putAll a ds (upd σ d v) = putAll a ds σ := by
  induction ds with
  | nil => intro a; rfl
  | cons x xs ih =>
    intro a
    have hx : x ≠ d := fun e => h (by simp [e])
    show putAll (a.put (some x) (upd σ d v x)) xs (upd σ d v) = putAll (a.put (some x) (σ x)) xs σ
    rw [upd_ne _ _ _ _ hx, ih (fun e => h (List.mem_cons_of_mem _ e))]
theorem putAll_comm (ds : List Nat) (σ : Nat → Value) (d : Nat) (v : Value) (h : d ∉ ds) : ∀ a, (putAll a ds σ).put (some d) v = putAll (a.put (some d) v) ds σ := by
  induction ds with
  | nil => intro a; rfl
  | cons x xs ih =>
    intro a
    have hx : x ≠ d := fun e => h (by simp [e])
    show (putAll (a.put (some x) (σ x)) xs σ).put (some d) v = putAll ((a.put (some d) v).put (some x) (σ x)) xs σ
    rw [ih (fun e => h (List.mem_cons_of_mem _ e)), Act.put_comm a (x := some x) (y := some d) (σ x) v (fun e h1 h2 => hx (by cases h1; cases h2; rfl))]
theorem put_put (a : Act) (d : Nat) (u v : Value) : (a.put (some d) u).put (some d) v = a.put (some d) v := by
  simp [Act.put]
theorem putAll_put (ds : List Nat) (σ : Nat → Value) (d : Nat) (v : Value) (hn : ds.Nodup) (hd : d ∈ ds) : ∀ a, (putAll a ds σ).put (some d) v = putAll a ds (upd σ d v) := by
  induction ds with
  | nil => cases hd
  | cons x xs ih =>
    intro a
    obtain ⟨h1, h2⟩ := List.nodup_cons.1 hn
    show (putAll (a.put (some x) (σ x)) xs σ).put (some d) v = putAll (a.put (some x) (upd σ d v x)) xs (upd σ d v)
    by_cases hx : x = d
    · subst hx
      rw [upd_same, putAll_upd _ _ _ _ h1, putAll_comm _ _ _ _ h1, put_put]
    · rw [upd_ne _ _ _ _ hx]
      exact ih h2 (by rcases List.mem_cons.1 hd with e | e; exact absurd e.symm hx; exact e) _
theorem put_same (a : Act) (d : Nat) : a.put (some d) (a.tmps.getD d undef) = a := by
  obtain ⟨t, df⟩ := a
  simp only [Act.put]
  congr 1
  apply Array.ext_getElem?
  intro i
  by_cases e : d = i
  · subst e
    by_cases h : d < t.size
    · simp [h]
    · simp [Nat.not_lt.1 h]
  · rw [Array.getElem?_setIfInBounds_ne e]
theorem putAll_self (ds : List Nat) (a : Act) : putAll a ds (fun d => a.tmps.getD d undef) = a := by
  unfold putAll
  have : ∀ (l : List Nat) (b : Act), b = a → l.foldl (fun c d => c.put (some d) (a.tmps.getD d undef)) b = a := by
    intro l
    induction l with
    | nil => intro b e; exact e
    | cons x xs ih => intro b e; subst e; exact ih _ (put_same _ _)
  exact this ds a rfl
/-- Number j waits for number i, over at most so many steps. -/
def dep (md : Region.Mode) (ops : Array Oper) : Nat → Nat → Nat → Bool
  | 0, _, _ => false
  | f + 1, j, i => ((ops[j]?).map fun o => o.after.any fun e => Region.binds md e && (e.on == i || dep md ops f e.on i)).getD false
def Closed (md : Region.Mode) (ops : Array Oper) (listed : Array Bool) : Prop := ∀ k ok, ops[k]? = some ok → listed.getD k false = true → ∀ e ∈ ok.after, Region.binds md e = true → listed.getD e.on false = true
theorem dep_listed {listed : Array Bool} (hc : Closed md ops listed) (i : Nat) : ∀ (f j : Nat) (oj : Oper), ops[j]? = some oj → (∀ e ∈ oj.after, Region.binds md e = true → listed.getD e.on false = true) → dep md ops f j i = true → listed.getD i false = true
  | 0, _, _, _, _, h => by cases h
  | f + 1, j, oj, hj, hall, h => by
    simp only [dep, hj, Option.map_some, Option.getD_some] at h
    obtain ⟨n, hn, h2⟩ := Array.any_eq_true.1 h
    simp only [Bool.and_eq_true, Bool.or_eq_true, beq_iff_eq] at h2
    obtain ⟨hb, h3⟩ := h2
    have hl := hall _ (Array.getElem_mem hn) hb
    rcases h3 with h3 | h3
    · rw [← h3]; exact hl
    · cases hk : ops[(oj.after[n]).on]? with
      | none =>
        cases f with
        | zero => cases h3
        | succ f => simp [dep, hk] at h3
      | some ok => exact dep_listed hc i f _ ok hk (hc _ ok hk hl) h3
/-- What the rule needs of the region itself: a number waits for lesser ones alone; the late ones wait for all early ones; each slot is written once. -/
def okB (md : Region.Mode) (ops : Array Oper) (ds : List Nat) (pre late : Nat → Bool) : Bool :=
  decide ds.Nodup &&
  ((List.range ops.size).all fun i => ((ops[i]?).map fun o => o.after.all fun e => !Region.binds md e || decide (e.on < i)).getD false) &&
  ((List.range ops.size).all fun i => late i || pre i || (List.range ops.size).all fun j => !late j || dep md ops ops.size j i) &&
  ((List.range ops.size).all fun i => late i || match (ops[i]?).bind (·.dst) with
    | some d => ds.contains d && (List.range ops.size).all fun k => late k || k == i || (ops[k]?).bind (·.dst) != some d
    | none => true)
structure Ok (md : Region.Mode) (ops : Array Oper) (ds : List Nat) (pre late : Nat → Bool) : Prop where
  nodup : ds.Nodup
  less : ∀ i o, ops[i]? = some o → ∀ e ∈ o.after, Region.binds md e = true → e.on < i
  wait : ∀ i, i < ops.size → late i = false → pre i = false → ∀ j, j < ops.size → late j = true → dep md ops ops.size j i = true
  dst : ∀ i o d, ops[i]? = some o → late i = false → o.dst = some d → d ∈ ds ∧ ∀ k ok, ops[k]? = some ok → late k = false → k ≠ i → ok.dst ≠ some d
theorem okB_spec {ds : List Nat} {pre late : Nat → Bool} (h : okB md ops ds pre late = true) : Ok md ops ds pre late := by
  simp only [okB, Bool.and_eq_true, List.all_eq_true, List.mem_range, decide_eq_true_eq] at h
  obtain ⟨⟨⟨h1, h2⟩, h3⟩, h4⟩ := h
  refine ⟨h1, fun i o ho e he hb => ?_, fun i hi hl hp j hj hlj => ?_, fun i o d ho hl hd => ?_⟩
  · have := h2 i (Array.getElem?_eq_some_iff.1 ho).1
    simp only [ho, Option.map_some, Option.getD_some] at this
    obtain ⟨n, hn, rfl⟩ := Array.mem_iff_getElem.1 he
    have h5 := Array.all_eq_true.1 this n hn
    simpa [hb] using h5
  · have := h3 i hi
    simp only [hl, hp, Bool.false_or, List.all_eq_true, List.mem_range] at this
    have h5 := this j hj
    simpa [hlj] using h5
  · have := h4 i (Array.getElem?_eq_some_iff.1 ho).1
    simp only [hl, ho, Bool.false_or, Option.bind_some, hd, Bool.and_eq_true, List.all_eq_true, List.mem_range] at this
    refine ⟨by simpa using this.1, fun k ok hok hlk hki e => ?_⟩
    have h5 := this.2 k (Array.getElem?_eq_some_iff.1 hok).1
    simp [hlk, hki, hok, e] at h5
theorem wpAny_more : ∀ (f : Nat) (listed : Array Bool) (a : Act) (w : World), wpAny P md ops Q f listed a w → wpAny P md ops Q (f + 1) listed a w
  | 0, listed, a, w, h => ⟨fun _ => h.2, fun i hi => by rw [h.1] at hi; cases hi⟩
  | f + 1, listed, a, w, h => ⟨h.1, fun i hi => wpOp_mono (fun a' w' h' => wpAny_more f _ a' w' h') (h.2 i hi)⟩
theorem wpAny_le {f g : Nat} {listed : Array Bool} {a : Act} {w : World} (hfg : f ≤ g) (h : wpAny P md ops Q f listed a w) : wpAny P md ops Q g listed a w := by
  obtain ⟨k, rfl⟩ := Nat.exists_eq_add_of_le hfg
  induction k with
  | zero => exact h
  | succ k ih => exact wpAny_more _ _ _ _ (ih (by omega))
/-- How many have not come up. -/
def left (ops : Array Oper) (listed : Array Bool) : Nat := (List.range ops.size).countP fun k => !listed.getD k false
theorem countP_lt {p q : Nat → Bool} : ∀ (l : List Nat), (∀ x ∈ l, q x = true → p x = true) → (∃ x ∈ l, p x = true ∧ q x = false) → l.countP q < l.countP p
  | [], _, h => by obtain ⟨x, hx, _⟩ := h; cases hx
  | y :: l, h, he => by
    have hle : l.countP q ≤ l.countP p := List.countP_mono_left (fun x hx => h x (List.mem_cons_of_mem _ hx))
    rw [List.countP_cons, List.countP_cons]
    obtain ⟨x, hx, h1, h2⟩ := he
    rcases List.mem_cons.1 hx with rfl | hx
    · simp only [h1, h2]; simp; omega
    · have := countP_lt l (fun x hx => h x (List.mem_cons_of_mem _ hx)) ⟨x, hx, h1, h2⟩
      have hy := h y (List.mem_cons_self ..)
      cases hq : q y
      · simp; split <;> omega
      · simp [hy hq]; omega
theorem left_set {listed : Array Bool} {i : Nat} (hi : i < ops.size) (hs : listed.size = ops.size) (h : listed.getD i false = false) : left ops (listed.setIfInBounds i true) < left ops listed := by
  refine countP_lt _ (fun x _ hx => ?_) ⟨i, List.mem_range.2 hi, by simp only [h]; rfl, ?_⟩
  · by_cases e : i = x
    · subst e; simp only [h]; rfl
    · rw [getD_set_ne false e] at hx; exact hx
  · have : i < listed.size := by omega
    simp [this]
theorem getD_of_lt {listed : Array Bool} {i : Nat} (h : i < listed.size) (b : Bool) : listed.getD i b = listed[i] := by simp [h]
/-- What an operation has left: undef if it leaves nothing. -/
def val (σ : Nat → Value) : Option Tmp → Value
  | some d => σ d
  | none => undef
/-- What an operation yields, if it leaves something. -/
def res : Option Tmp → Value → Value
  | some _, v => v
  | none, _ => undef
/-- The state of a region under way. -/
structure Held (md : Region.Mode) (ops : Array Oper) (pre late : Nat → Bool) (a0 : Act) (ds : List Nat) (W : World → Prop) (V : Nat → Value → World → Prop) (listed : Array Bool) (a : Act) (w : World) : Prop where
  size : listed.size = ops.size
  closed : Closed md ops listed
  fresh : ∀ k, late k = true → listed.getD k false = false
  begun : ∀ k, pre k = true → listed.getD k false = true
  world : W w
  vals : ∃ σ, a = putAll a0 ds σ ∧ ∀ k o, ops[k]? = some o → late k = false → listed.getD k false = true → V k (val σ o.dst) w
def early (ops : Array Oper) (late : Nat → Bool) : Array Bool := ((List.range ops.size).map fun k => !late k).toArray
/-- What is to be shown of one operation. -/
def Step (P : Program) (md : Region.Mode) (ops : Array Oper) (Q : Exit → Act → World → Prop) (F : (Nat → Value) → Act) (W : World → Prop) (R : Nat → World → World → Prop) (V : Nat → Value → World → Prop) (i : Nat) (o : Oper) : Prop :=
  ∀ σ w, W w → (∀ k t, (o.after.any fun e => Region.binds md e && e.on == k) = true → ((ops[k]?).map (·.dst)) = some t → V k (val σ t) w) →
    ∀ K : Act → World → Prop, Shut (∀ v w', W w' → R i w w' → V i (res o.dst v) w' → K ((F σ).put o.dst v) w') →
      if Region.wanted o (yielded ops (F σ).tmps) = true then o.wp P (F σ) w K Q else K ((F σ).put o.dst undef) w
def Steps (P : Program) (md : Region.Mode) (ops : Array Oper) (Q : Exit → Act → World → Prop) (F : (Nat → Value) → Act) (W : World → Prop) (R : Nat → World → World → Prop) (V : Nat → Value → World → Prop) (l : List Nat) : Prop :=
  ∀ i ∈ l, ∀ o, ops[i]? = some o → Step P md ops Q F W R V i o
theorem Steps.nil {F : (Nat → Value) → Act} {W : World → Prop} {R : Nat → World → World → Prop} {V : Nat → Value → World → Prop} : Steps P md ops Q F W R V [] := fun _ h => by cases h
theorem Steps.cons {F : (Nat → Value) → Act} {W : World → Prop} {R : Nat → World → World → Prop} {V : Nat → Value → World → Prop} {i : Nat} {l : List Nat} (hi : i < ops.size)
    (h : ∀ σ w, W w → (∀ k t, ((ops[i]).after.any fun e => Region.binds md e && e.on == k) = true → ((ops[k]?).map (·.dst)) = some t → V k (val σ t) w) →
      ∀ K : Act → World → Prop, Shut (∀ v w', W w' → R i w w' → V i (res (ops[i]).dst v) w' → K ((F σ).put (ops[i]).dst v) w') →
        if Region.wanted ops[i] (yielded ops (F σ).tmps) = true then (ops[i]).wp P (F σ) w K Q else K ((F σ).put (ops[i]).dst undef) w)
    (hl : Steps P md ops Q F W R V l) : Steps P md ops Q F W R V (i :: l) := fun j hj oj hoj => by
  rcases List.mem_cons.1 hj with rfl | hj
  · rw [Array.getElem?_eq_getElem hi] at hoj; cases hoj; exact h
  · exact hl j hj oj hoj
/-- An operation without a guard. -/
theorem Steps.go {F : (Nat → Value) → Act} {W : World → Prop} {R : Nat → World → World → Prop} {V : Nat → Value → World → Prop} {i : Nat} {l : List Nat} (hi : i < ops.size) (hg : (ops[i]).guard = none)
    (h : ∀ σ w, W w → (∀ k t, ((ops[i]).after.any fun e => Region.binds md e && e.on == k) = true → ((ops[k]?).map (·.dst)) = some t → V k (val σ t) w) →
      ∀ K : Act → World → Prop, Shut (∀ v w', W w' → R i w w' → V i (res (ops[i]).dst v) w' → K ((F σ).put (ops[i]).dst v) w') → (ops[i]).wp P (F σ) w K Q)
    (hl : Steps P md ops Q F W R V l) : Steps P md ops Q F W R V (i :: l) :=
  Steps.cons hi (fun σ w h1 h2 K hK => by
    have hw : Region.wanted ops[i] (yielded ops (F σ).tmps) = true := by simp [Region.wanted, hg]
    rw [if_pos hw]; exact h σ w h1 h2 K hK) hl
/-- An operation whose guard lets it run. -/
theorem Steps.on {F : (Nat → Value) → Act} {W : World → Prop} {R : Nat → World → World → Prop} {V : Nat → Value → World → Prop} {i : Nat} {l : List Nat} (hi : i < ops.size) (g dg : Nat) (b : Bool) (hg : (ops[i]).guard = some (g, b)) (hd : (ops[g]?).bind (·.dst) = some dg)
    (h : ∀ σ w, W w → (∀ k t, ((ops[i]).after.any fun e => Region.binds md e && e.on == k) = true → ((ops[k]?).map (·.dst)) = some t → V k (val σ t) w) →
      (F σ).tmps[dg]? = some (.bool b) ∧ ∀ K : Act → World → Prop, Shut (∀ v w', W w' → R i w w' → V i (res (ops[i]).dst v) w' → K ((F σ).put (ops[i]).dst v) w') → (ops[i]).wp P (F σ) w K Q)
    (hl : Steps P md ops Q F W R V l) : Steps P md ops Q F W R V (i :: l) :=
  Steps.cons hi (fun σ w h1 h2 K hK => by
    obtain ⟨h3, h4⟩ := h σ w h1 h2
    have hw : Region.wanted ops[i] (yielded ops (F σ).tmps) = true := by
      simp only [Region.wanted, hg, yielded, hd, Option.bind_some, h3]
      simp
    rw [if_pos hw]; exact h4 K hK) hl
/-- An operation whose guard does not let it run. -/
theorem Steps.off {F : (Nat → Value) → Act} {W : World → Prop} {R : Nat → World → World → Prop} {V : Nat → Value → World → Prop} {i : Nat} {l : List Nat} (hi : i < ops.size) (g dg : Nat) (b : Bool) (u : Value) (hg : (ops[i]).guard = some (g, b)) (hd : (ops[g]?).bind (·.dst) = some dg) (hub : u = .bool (!b) ∨ u = undef)
    (h : ∀ σ w, W w → (∀ k t, ((ops[i]).after.any fun e => Region.binds md e && e.on == k) = true → ((ops[k]?).map (·.dst)) = some t → V k (val σ t) w) →
      (F σ).tmps[dg]? = some u ∧ R i w w ∧ V i undef w)
    (hl : Steps P md ops Q F W R V l) : Steps P md ops Q F W R V (i :: l) :=
  Steps.cons hi (fun σ w h1 h2 K hK => by
    obtain ⟨h3, h4, h5⟩ := h σ w h1 h2
    have hw : ¬ Region.wanted ops[i] (yielded ops (F σ).tmps) = true := by
      simp only [Region.wanted, hg, yielded, hd, Option.bind_some, h3]
      rcases hub with rfl | rfl
      · cases b <;> simp
      · simp [undef]
    rw [if_neg hw]
    refine hK.out undef w h1 h4 ?_
    cases hdd : (ops[i]).dst <;> exact h5) hl
theorem wpOp_of_if {i : Nat} {o : Oper} {a : Act} {w : World} {K : Act → World → Prop} (hi : ops[i]? = some o)
    (h : if Region.wanted o (yielded ops a.tmps) = true then o.wp P a w K Q else K (a.put o.dst undef) w) : wpOp P ops Q i K a w := by
  unfold wpOp
  simp only [hi]
  split
  · rename_i hw; simp only [hw, if_true] at h; exact .inl h
  · rename_i hw; simp only [hw] at h; exact h
theorem held_any (pre late : Nat → Bool) (a0 : Act) (ds : List Nat) (F : (Nat → Value) → Act) (hF : ∀ σ, putAll a0 ds σ = F σ) (W : World → Prop) (R : Nat → World → World → Prop) (V : Nat → Value → World → Prop) (ok : Ok md ops ds pre late)
    (stab : ∀ i k v w w', i ≠ k → V k v w → R i w w' → V k v w') (steps : ∀ i o, ops[i]? = some o → late i = false → pre i = false → Step P md ops Q F W R V i o)
    (rest : ∀ σ w, W w → (∀ k o, ops[k]? = some o → late k = false → V k (val σ o.dst) w) → wpAny P md ops Q (left ops (early ops late)) (early ops late) (F σ) w) :
    ∀ (f : Nat) (listed : Array Bool) (a : Act) (w : World), left ops listed ≤ f → Held md ops pre late a0 ds W V listed a w → wpAny P md ops Q f listed a w := by
  intro f
  induction f with
  | zero =>
    intro listed a w hf h
    have hall : ∀ k, k < ops.size → listed.getD k false = true := fun k hk => by
      cases hb : listed.getD k false with
      | true => rfl
      | false =>
        have : 0 < left ops listed := List.countP_pos_iff.2 ⟨k, List.mem_range.2 hk, by simp only [hb]; rfl⟩
        omega
    have he : listed = early ops late := by
      apply Array.ext
      · simp [early, h.size]
      · intro i h1 h2
        have hi : i < ops.size := by rw [← h.size]; exact h1
        have h3 := hall i hi
        rw [getD_of_lt h1] at h3
        rw [h3]
        cases hl : late i with
        | false => simp [early, hl]
        | true => have := h.fresh i hl; rw [getD_of_lt h1, h3] at this; cases this
    obtain ⟨σ, rfl, hv⟩ := h.vals
    have hz : left ops (early ops late) ≤ 0 := by rw [← he]; exact hf
    have := wpAny_le hz (rest σ w h.world fun k o hk hl => hv k o hk hl (hall k (Array.getElem?_eq_some_iff.1 hk).1))
    rw [← he, ← hF] at this
    exact this
  | succ f ih =>
    intro listed a w hf h
    by_cases hex : ∃ k, k < ops.size ∧ late k = false ∧ listed.getD k false = false
    · obtain ⟨k0, hk0, hl0, hu0⟩ := hex
      have hp0 : pre k0 = false := by
        cases hq : pre k0 with
        | false => rfl
        | true => rw [h.begun k0 hq] at hu0; cases hu0
      -- the least that has not come up may come up
      have hready : ∀ n k, k < n → k < ops.size → listed.getD k false = false → Region.ready md ops listed ≠ [] := by
        intro n
        induction n with
        | zero => intro k hk; omega
        | succ n ihn =>
          intro k hk hks hu
          by_cases hless : ∃ j, j < k ∧ listed.getD j false = false
          · obtain ⟨j, hj, huj⟩ := hless
            exact ihn j (by omega) (by omega) huj
          · have hm : k ∈ Region.ready md ops listed := by
              refine mem_ready.2 ⟨?_, ops[k], Array.getElem?_eq_getElem hks, fun e he hb => ?_⟩
              · have : k < listed.size := by rw [h.size]; exact hks
                rw [getD_of_lt this] at hu ⊢; exact hu
              · have hlt := ok.less k _ (Array.getElem?_eq_getElem hks) e he hb
                cases hq : listed.getD e.on false with
                | true => rfl
                | false => exact absurd ⟨e.on, hlt, hq⟩ hless
            intro e; rw [e] at hm; cases hm
      refine ⟨fun e => absurd e (hready (k0 + 1) k0 (by omega) hk0 hu0), fun i hi => ?_⟩
      obtain ⟨hun, o, ho, hall⟩ := mem_ready.1 hi
      have hi' : i < ops.size := (Array.getElem?_eq_some_iff.1 ho).1
      have hil : i < listed.size := by rw [h.size]; exact hi'
      have hun' : listed.getD i false = false := by rw [getD_of_lt hil] at hun ⊢; exact hun
      have hpi : pre i = false := by
        cases hq : pre i with
        | false => rfl
        | true => rw [h.begun i hq] at hun'; cases hun'
      have hli : late i = false := by
        cases hq : late i with
        | false => rfl
        | true =>
          have h1 := ok.wait k0 hk0 hl0 hp0 i hi' hq
          rw [dep_listed h.closed k0 _ i o ho hall h1] at hu0
          cases hu0
      obtain ⟨σ, rfl, hv⟩ := h.vals
      have hst := steps i o ho hli hpi σ w h.world (fun k t hk hd => by
        obtain ⟨n, hn, h2⟩ := Array.any_eq_true.1 hk
        simp only [Bool.and_eq_true, beq_iff_eq] at h2
        obtain ⟨hb, rfl⟩ := h2
        have hl := hall _ (Array.getElem_mem hn) hb
        cases hok : ops[(o.after[n]).on]? with
        | none => rw [hok] at hd; cases hd
        | some ok' =>
          rw [hok] at hd
          cases hd
          have hle : late (o.after[n]).on = false := by
            cases hq : late (o.after[n]).on with
            | false => rfl
            | true => rw [h.fresh _ hq] at hl; cases hl
          exact hv _ ok' hok hle hl)
      rw [← hF] at hst
      refine wpOp_of_if ho (hst _ fun v w' hW hR hV => ih _ _ _ (by have := left_set (ops := ops) hi' h.size hun'; omega) ⟨?_, ?_, ?_, ?_, hW, ?_⟩)
      · simp [h.size]
      · intro k ok' hk hl e he hb
        by_cases hki : i = k
        · subst hki
          rw [ho] at hk; cases hk
          exact getD_set_true (hall e he hb)
        · rw [getD_set_ne false hki] at hl
          exact getD_set_true (h.closed k ok' hk hl e he hb)
      · intro k hk
        have : i ≠ k := fun e => by rw [← e, hli] at hk; cases hk
        rw [getD_set_ne false this]
        exact h.fresh k hk
      · intro k hk
        exact getD_set_true (h.begun k hk)
      · cases hd : o.dst with
        | none =>
          refine ⟨σ, rfl, fun k ok' hk hlk hl => ?_⟩
          by_cases hki : i = k
          · subst hki
            rw [ho] at hk; cases hk
            rw [hd] at hV ⊢; exact hV
          · rw [getD_set_ne false hki] at hl
            exact stab i _ _ _ _ hki (hv k ok' hk hlk hl) hR
        | some d0 =>
          obtain ⟨hmem, hne⟩ := ok.dst i o d0 ho hli hd
          refine ⟨upd σ d0 v, putAll_put ds σ d0 v ok.nodup hmem a0, fun k ok' hk hlk hl => ?_⟩
          by_cases hki : i = k
          · subst hki
            rw [ho] at hk; cases hk
            rw [hd] at hV ⊢
            show V i (upd σ d0 v d0) w'
            rw [upd_same]; exact hV
          · rw [getD_set_ne false hki] at hl
            have hvk := stab i _ _ _ _ hki (hv k ok' hk hlk hl) hR
            cases hdk : ok'.dst with
            | none => rw [hdk] at hvk; exact hvk
            | some d =>
              rw [hdk] at hvk
              have hdd : d ≠ d0 := fun e => hne k ok' hk hlk (Ne.symm hki) (by rw [hdk, e])
              show V k (upd σ d0 v d) w'
              rw [upd_ne _ _ _ _ hdd]
              exact hvk
    · have he : listed = early ops late := by
        apply Array.ext
        · simp [early, h.size]
        · intro i h1 h2
          have hi : i < ops.size := by rw [← h.size]; exact h1
          cases hl : late i with
          | false =>
            have : listed.getD i false = true := by
              cases hb : listed.getD i false with
              | true => rfl
              | false => exact absurd ⟨i, hi, hl, hb⟩ hex
            rw [getD_of_lt h1] at this
            simp [early, hl, this]
          | true =>
            have := h.fresh i hl
            rw [getD_of_lt h1] at this
            simp [early, hl, this]
      obtain ⟨σ, rfl, hv⟩ := h.vals
      have hz : left ops (early ops late) ≤ f + 1 := by rw [← he]; exact hf
      have := wpAny_le hz (rest σ w h.world fun k o hk hl => hv k o hk hl (by
        cases hb : listed.getD k false with
        | true => rfl
        | false => exact absurd ⟨k, (Array.getElem?_eq_some_iff.1 hk).1, hl, hb⟩ hex))
      rw [← he, ← hF] at this
      exact this
/-- What the rule needs of the state in which it begins. -/
def fitB (md : Region.Mode) (ops : Array Oper) (late : Nat → Bool) (listed : Array Bool) (fuel : Nat) : Bool :=
  decide (listed.size = ops.size) && decide (left ops listed ≤ fuel) &&
  ((List.range ops.size).all fun k => !listed.getD k false || (!late k && ((ops[k]?).map fun o => o.after.all fun e => !Region.binds md e || listed.getD e.on false).getD true))
/-- **The rule**, in a region under way. -/
theorem wpAny_inv {fuel : Nat} {listed : Array Bool} {a : Act} {w : World} (late : Nat → Bool) (ds : List Nat) (W : World → Prop) (R : Nat → World → World → Prop) (V : Nat → Value → World → Prop) (F : (Nat → Value) → Act)
    (hF : ∀ σ, putAll a ds σ = F σ) (hfit : fitB md ops late listed fuel = true) (hok : okB md ops ds (fun k => listed.getD k false) late = true)
    (stab : ∀ i k v w w', i ≠ k → V k v w → R i w w' → V k v w') (hW : W w) (hV : ∀ k t, listed.getD k false = true → ((ops[k]?).map (·.dst)) = some t → V k (val (fun d => a.tmps.getD d undef) t) w)
    (steps : Steps P md ops Q F W R V ((List.range ops.size).filter fun k => !late k && !listed.getD k false))
    (m : Nat) (E : Array Bool) (hm : left ops (early ops late) = m) (hE : early ops late = E)
    (rest : ∀ σ w, W w → (∀ k t, late k = false → ((ops[k]?).map (·.dst)) = some t → V k (val σ t) w) → wpAny P md ops Q m E (F σ) w) :
    wpAny P md ops Q fuel listed a w := by
  subst hm hE
  simp only [fitB, Bool.and_eq_true, decide_eq_true_eq, List.all_eq_true, List.mem_range] at hfit
  obtain ⟨⟨h1, h2⟩, h3⟩ := hfit
  have hin : ∀ k, listed.getD k false = true → k < ops.size := fun k hk => by
    rw [← h1]
    rcases Nat.lt_or_ge k listed.size with h | h
    · exact h
    · simp [Array.getElem?_eq_none h] at hk
  refine held_any (fun k => listed.getD k false) late a ds F hF W R V (okB_spec hok) stab (fun i o ho hl hp => steps i (List.mem_filter.2 ⟨List.mem_range.2 (Array.getElem?_eq_some_iff.1 ho).1, by rw [hl, hp]; rfl⟩) o ho)
    (fun σ w h1 h2 => rest σ w h1 fun k t hl hd => ?_) fuel listed a w h2 ⟨h1, ?_, ?_, fun _ h => h, hW, _, (putAll_self ds a).symm, ?_⟩
  · cases ho : ops[k]? with
    | none => rw [ho] at hd; cases hd
    | some o => rw [ho] at hd; cases hd; exact h2 k o ho hl
  · intro k ok' hk hl e he hb
    have := h3 k (hin k hl)
    simp only [hl, hk, Bool.not_true, Bool.false_or, Bool.and_eq_true, Option.map_some, Option.getD_some] at this
    obtain ⟨n, hn, rfl⟩ := Array.mem_iff_getElem.1 he
    have h5 := Array.all_eq_true.1 this.2 n hn
    simpa [hb] using h5
  · intro k hk
    cases hq : listed.getD k false with
    | false => rfl
    | true =>
      have := h3 k (hin k hq)
      simp [hq, hk] at this
  · intro k o ho _ hl
    exact hV k o.dst hl (by rw [ho]; rfl)
/-- The one late operation that may come up. -/
theorem one {i : Nat} {fuel : Nat} {listed : Array Bool} {a : Act} {w : World} (hlt : i < ops.size) (hr : Region.ready md ops listed = [i]) (hg : (ops[i]).guard = none)
    (h : ∀ K : Act → World → Prop, Shut (∀ a' w', wpAny P md ops Q fuel (listed.setIfInBounds i true) a' w' → K a' w') → (ops[i]).wp P a w K Q) : wpAny P md ops Q (fuel + 1) listed a w := by
  refine ⟨fun h0 => (by rw [h0] at hr; cases hr), fun j hj => ?_⟩
  rw [hr] at hj
  obtain rfl : j = i := by simpa using hj
  unfold wpOp
  have hw : Region.wanted ops[j] (yielded ops a.tmps) = true := by simp [Region.wanted, hg]
  simp only [Array.getElem?_eq_getElem hlt, hw, if_true]
  exact .inl (h _ fun a' w' h1 => h1)
/-- Take an operation first that works in no world. -/
theorem take {i : Nat} {d : Tmp} {v : Value} {fuel : Nat} {listed : Array Bool} {a : Act} {w : World} (hlt : i < ops.size) (hd : (ops[i]).dst = some d)
    (hs : Region.noSelect ops = true) (hf : Region.free md ops listed i = true) (hr : (Region.ready md ops listed).contains i = true)
    (hQ : ∀ c a w, Q (.panic c) (a.put (some d) v) w → Q (.panic c) a w) (hg : (ops[i]).guard = none) (hy : ∀ w, (execOp a.eval ops[i]).run P w = .ok (.value v) w)
    (h : wpAny P md ops Q fuel (listed.setIfInBounds i true) (a.put (some d) v) w) : wpAny P md ops Q (fuel + 1) listed a w :=
  wpAny_take (Array.getElem?_eq_getElem hlt) hs hf hr (by rw [hd]; exact hQ) (Or.inl ⟨by simp [Region.wanted, hg], hy⟩) (by rw [hd]; exact h)
theorem done {listed : Array Bool} {a : Act} {w : World} (hr : Region.ready md ops listed = []) (h : Q .normal a w) : wpAny P md ops Q 0 listed a w := ⟨hr, h⟩
end
end Inv
end Go.Proofs.Ytldgihlhioeipaa

/- The rule of Inv where a late operation (a store) need not wait for two of the others. -/
namespace Go.Proofs.Ytldgihlhioeipaa
set_option linter.unusedVariables false
namespace Inv
section
variable {P : Program} {ops : Array Oper} {Q : Exit → Act → World → Prop} {md : Region.Mode}
theorem held_mid (pre late mid : Nat → Bool) (a0 : Act) (ds : List Nat) (F : (Nat → Value) → Act) (hF : ∀ σ, putAll a0 ds σ = F σ) (W : World → Prop) (R : Nat → World → World → Prop) (V : Nat → Value → World → Prop) (ok : Ok md ops ds (fun k => pre k || mid k) late)
    (stab : ∀ i k v w w', i ≠ k → V k v w → R i w w' → V k v w') (steps : ∀ i o, ops[i]? = some o → late i = false → pre i = false → Step P md ops Q F W R V i o)
    (rest : ∀ (listed : Array Bool) σ w, listed.size = ops.size → (∀ k, k < ops.size → late k = false → mid k = false → listed.getD k false = true) → (∀ k, late k = true → listed.getD k false = false) → W w → (∀ k o, ops[k]? = some o → late k = false → listed.getD k false = true → V k (val σ o.dst) w) → wpAny P md ops Q (left ops listed) listed (F σ) w) :
    ∀ (f : Nat) (listed : Array Bool) (a : Act) (w : World), left ops listed ≤ f → Held md ops pre late a0 ds W V listed a w → wpAny P md ops Q f listed a w := by
  intro f
  induction f with
  | zero =>
    intro listed a w hf h
    have hall : ∀ k, k < ops.size → listed.getD k false = true := fun k hk => by
      cases hb : listed.getD k false with
      | true => rfl
      | false =>
        have : 0 < left ops listed := List.countP_pos_iff.2 ⟨k, List.mem_range.2 hk, by simp only [hb]; rfl⟩
        omega
    obtain ⟨σ, rfl, hv⟩ := h.vals
    have := wpAny_le hf (rest listed σ w h.size (fun k hk _ _ => hall k hk) h.fresh h.world hv)
    rw [← hF] at this
    exact this
  | succ f ih =>
    intro listed a w hf h
    by_cases hex : ∃ k, k < ops.size ∧ late k = false ∧ mid k = false ∧ listed.getD k false = false
    · obtain ⟨k0, hk0, hl0, hm0, hu0⟩ := hex
      have hp0 : pre k0 = false := by
        cases hq : pre k0 with
        | false => rfl
        | true => rw [h.begun k0 hq] at hu0; cases hu0
      -- the least that has not come up may come up
      have hready : ∀ n k, k < n → k < ops.size → listed.getD k false = false → Region.ready md ops listed ≠ [] := by
        intro n
        induction n with
        | zero => intro k hk; omega
        | succ n ihn =>
          intro k hk hks hu
          by_cases hless : ∃ j, j < k ∧ listed.getD j false = false
          · obtain ⟨j, hj, huj⟩ := hless
            exact ihn j (by omega) (by omega) huj
          · have hm : k ∈ Region.ready md ops listed := by
              refine mem_ready.2 ⟨?_, ops[k], Array.getElem?_eq_getElem hks, fun e he hb => ?_⟩
              · have : k < listed.size := by rw [h.size]; exact hks
                rw [getD_of_lt this] at hu ⊢; exact hu
              · have hlt := ok.less k _ (Array.getElem?_eq_getElem hks) e he hb
                cases hq : listed.getD e.on false with
                | true => rfl
                | false => exact absurd ⟨e.on, hlt, hq⟩ hless
            intro e; rw [e] at hm; cases hm
      refine ⟨fun e => absurd e (hready (k0 + 1) k0 (by omega) hk0 hu0), fun i hi => ?_⟩
      obtain ⟨hun, o, ho, hall⟩ := mem_ready.1 hi
      have hi' : i < ops.size := (Array.getElem?_eq_some_iff.1 ho).1
      have hil : i < listed.size := by rw [h.size]; exact hi'
      have hun' : listed.getD i false = false := by rw [getD_of_lt hil] at hun ⊢; exact hun
      have hpi : pre i = false := by
        cases hq : pre i with
        | false => rfl
        | true => rw [h.begun i hq] at hun'; cases hun'
      have hli : late i = false := by
        cases hq : late i with
        | false => rfl
        | true =>
          have h1 := ok.wait k0 hk0 hl0 (by simp [hp0, hm0]) i hi' hq
          rw [dep_listed h.closed k0 _ i o ho hall h1] at hu0
          cases hu0
      obtain ⟨σ, rfl, hv⟩ := h.vals
      have hst := steps i o ho hli hpi σ w h.world (fun k t hk hd => by
        obtain ⟨n, hn, h2⟩ := Array.any_eq_true.1 hk
        simp only [Bool.and_eq_true, beq_iff_eq] at h2
        obtain ⟨hb, rfl⟩ := h2
        have hl := hall _ (Array.getElem_mem hn) hb
        cases hok : ops[(o.after[n]).on]? with
        | none => rw [hok] at hd; cases hd
        | some ok' =>
          rw [hok] at hd
          cases hd
          have hle : late (o.after[n]).on = false := by
            cases hq : late (o.after[n]).on with
            | false => rfl
            | true => rw [h.fresh _ hq] at hl; cases hl
          exact hv _ ok' hok hle hl)
      rw [← hF] at hst
      refine wpOp_of_if ho (hst _ fun v w' hW hR hV => ih _ _ _ (by have := left_set (ops := ops) hi' h.size hun'; omega) ⟨?_, ?_, ?_, ?_, hW, ?_⟩)
      · simp [h.size]
      · intro k ok' hk hl e he hb
        by_cases hki : i = k
        · subst hki
          rw [ho] at hk; cases hk
          exact getD_set_true (hall e he hb)
        · rw [getD_set_ne false hki] at hl
          exact getD_set_true (h.closed k ok' hk hl e he hb)
      · intro k hk
        have : i ≠ k := fun e => by rw [← e, hli] at hk; cases hk
        rw [getD_set_ne false this]
        exact h.fresh k hk
      · intro k hk
        exact getD_set_true (h.begun k hk)
      · cases hd : o.dst with
        | none =>
          refine ⟨σ, rfl, fun k ok' hk hlk hl => ?_⟩
          by_cases hki : i = k
          · subst hki
            rw [ho] at hk; cases hk
            rw [hd] at hV ⊢; exact hV
          · rw [getD_set_ne false hki] at hl
            exact stab i _ _ _ _ hki (hv k ok' hk hlk hl) hR
        | some d0 =>
          obtain ⟨hmem, hne⟩ := ok.dst i o d0 ho hli hd
          refine ⟨upd σ d0 v, putAll_put ds σ d0 v ok.nodup hmem a0, fun k ok' hk hlk hl => ?_⟩
          by_cases hki : i = k
          · subst hki
            rw [ho] at hk; cases hk
            rw [hd] at hV ⊢
            show V i (upd σ d0 v d0) w'
            rw [upd_same]; exact hV
          · rw [getD_set_ne false hki] at hl
            have hvk := stab i _ _ _ _ hki (hv k ok' hk hlk hl) hR
            cases hdk : ok'.dst with
            | none => rw [hdk] at hvk; exact hvk
            | some d =>
              rw [hdk] at hvk
              have hdd : d ≠ d0 := fun e => hne k ok' hk hlk (Ne.symm hki) (by rw [hdk, e])
              show V k (upd σ d0 v d) w'
              rw [upd_ne _ _ _ _ hdd]
              exact hvk
    · obtain ⟨σ, rfl, hv⟩ := h.vals
      have := wpAny_le hf (rest listed σ w h.size (fun k hk hl hm => by
        cases hb : listed.getD k false with
        | true => rfl
        | false => exact absurd ⟨k, hk, hl, hm, hb⟩ hex) h.fresh h.world hv)
      rw [← hF] at this
      exact this
/-- The list when all but the late and perhaps two others have come up. -/
def two (ops : Array Oper) (late : Nat → Bool) (m1 m2 : Nat) (b1 b2 : Bool) : Array Bool := ((early ops late).setIfInBounds m1 b1).setIfInBounds m2 b2
/-- The rule, where the late operations need not wait for two of the others. -/
theorem wpAny_inv2 {fuel : Nat} {listed : Array Bool} {a : Act} {w : World} (late : Nat → Bool) (m1 m2 : Nat) (ds : List Nat) (W : World → Prop) (R : Nat → World → World → Prop) (V : Nat → Value → World → Prop) (F : (Nat → Value) → Act)
    (hF : ∀ σ, putAll a ds σ = F σ) (hfit : fitB md ops late listed fuel = true) (hok : okB md ops ds (fun k => listed.getD k false || (k == m1 || k == m2)) late = true) (hm12 : m1 ≠ m2)
    (stab : ∀ i k v w w', i ≠ k → V k v w → R i w w' → V k v w') (hW : W w) (hV : ∀ k t, listed.getD k false = true → ((ops[k]?).map (·.dst)) = some t → V k (val (fun d => a.tmps.getD d undef) t) w)
    (steps : Steps P md ops Q F W R V ((List.range ops.size).filter fun k => !late k && !listed.getD k false))
    (m : Bool → Bool → Nat) (E : Bool → Bool → Array Bool) (hm : ∀ b1 b2, left ops (two ops late m1 m2 b1 b2) = m b1 b2) (hE : ∀ b1 b2, two ops late m1 m2 b1 b2 = E b1 b2) (hl12 : late m1 = false ∧ late m2 = false)
    (rest : ∀ b1 b2 σ w, W w → (∀ k t, late k = false → (k = m1 → b1 = true) → (k = m2 → b2 = true) → ((ops[k]?).map (·.dst)) = some t → V k (val σ t) w) → wpAny P md ops Q (m b1 b2) (E b1 b2) (F σ) w) :
    wpAny P md ops Q fuel listed a w := by
  simp only [fitB, Bool.and_eq_true, decide_eq_true_eq, List.all_eq_true, List.mem_range] at hfit
  obtain ⟨⟨h1, h2⟩, h3⟩ := hfit
  have hin : ∀ k, listed.getD k false = true → k < ops.size := fun k hk => by
    rw [← h1]
    rcases Nat.lt_or_ge k listed.size with h | h
    · exact h
    · simp [Array.getElem?_eq_none h] at hk
  refine held_mid (fun k => listed.getD k false) late (fun k => k == m1 || k == m2) a ds F hF W R V (okB_spec hok) stab (fun i o ho hl hp => steps i (List.mem_filter.2 ⟨List.mem_range.2 (Array.getElem?_eq_some_iff.1 ho).1, by rw [hl, hp]; rfl⟩) o ho)
    (fun li σ w g1 g2 g3 g4 g5 => ?_) fuel listed a w h2 ⟨h1, ?_, ?_, fun _ h => h, hW, _, (putAll_self ds a).symm, ?_⟩
  · have he : li = two ops late m1 m2 (li.getD m1 false) (li.getD m2 false) := by
      apply Array.ext_getElem?
      intro i
      rcases Nat.lt_or_ge i ops.size with hi | hi
      · have q1 : i < li.size := by rw [g1]; exact hi
        have hget : li[i]? = some (li.getD i false) := by rw [getD_of_lt q1, Array.getElem?_eq_getElem q1]
        rw [hget]
        by_cases e2 : m2 = i
        · subst e2
          simp [two, early, hi]
        · unfold two
          rw [Array.getElem?_setIfInBounds_ne e2]
          by_cases e1 : m1 = i
          · subst e1
            simp [early, hi]
          · rw [Array.getElem?_setIfInBounds_ne e1]
            have hx : (early ops late)[i]? = some (!late i) := by simp [early, hi]
            rw [hx]
            cases hl : late i with
            | true => rw [g3 i hl]; rfl
            | false => rw [g2 i hi hl (by simp [Ne.symm e1, Ne.symm e2])]; rfl
      · rw [Array.getElem?_eq_none (by rw [g1]; exact hi), Array.getElem?_eq_none (by simp [two, early]; exact hi)]
    have hr := rest (li.getD m1 false) (li.getD m2 false) σ w g4 (fun k t hl k1 k2 hd => by
      cases ho : ops[k]? with
      | none => rw [ho] at hd; cases hd
      | some o =>
        rw [ho] at hd; cases hd
        refine g5 k o ho hl ?_
        by_cases e1 : k = m1
        · rw [e1]; exact k1 e1
        · by_cases e2 : k = m2
          · rw [e2]; exact k2 e2
          · exact g2 k (Array.getElem?_eq_some_iff.1 ho).1 hl (by simp [e1, e2]))
    rw [← hm, ← hE, ← he] at hr
    exact hr
  · intro k ok' hk hl e he hb
    have := h3 k (hin k hl)
    simp only [hl, hk, Bool.not_true, Bool.false_or, Bool.and_eq_true, Option.map_some, Option.getD_some] at this
    obtain ⟨n, hn, rfl⟩ := Array.mem_iff_getElem.1 he
    have h5 := Array.all_eq_true.1 this.2 n hn
    simpa [hb] using h5
  · intro k hk
    cases hq : listed.getD k false with
    | false => rfl
    | true =>
      have := h3 k (hin k hq)
      simp [hq, hk] at this
  · intro k o ho _ hl
    exact hV k o.dst hl (by rw [ho]; rfl)
end
end Inv
end Go.Proofs.Ytldgihlhioeipaa
