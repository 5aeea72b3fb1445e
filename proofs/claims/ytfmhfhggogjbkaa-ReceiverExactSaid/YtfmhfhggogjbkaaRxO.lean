/- Memory of ReceiverExact. -/
import Derived.Test.YtfmhfhggogjbkaaRxH
import Derived.RegionTactic
import Derived.Deep.DeepCutAuto
import Derived.Laws.AppendOwn
import Derived.Deep.AppendLies
import Derived.Deep.AppendSrc
set_option linter.unusedVariables false
set_option linter.unusedSimpArgs false
namespace Go.Proofs.Ytfmhfhggogjbkaa
open Go.RowKit Dice
namespace Laws
open Rx Spn
open Sp (Spans own_below own_shape own_mono cells2)
/-- A list of spans, not in the dice's block d. -/
structure Lsr (d : Nat) (w : World) (v : Value) (L : LP) : Prop where
  its : Itw w v L
  len : L.length ≤ 40
  ne : L ≠ [] → v.ownBlock ≠ some d
theorem Lsr.keep {d : Nat} {w w' : World} {v : Value} {L : LP} (h : Lsr d w v L) (hb : Below w.heap.size w w') : Lsr d w' v L := ⟨h.its.keep hb, h.len, h.ne⟩
theorem Lsr.left {W w w' : World} {d : Nat} {a : Option Addr} {len cap : Nat} {zs : List Int} {v : Value} {L : LP} (h : Lsr d w v L) (hl : Dice.Left W w w' d a len cap zs) : Lsr d w' v L :=
  ⟨h.its.far hl.far h.ne, h.len, h.ne⟩
/-- The memory of the outer loop. -/
structure RX (W : World) (d : Nat) (a : Option Addr) (len cap : Nat) (zs : List Int) (bP : Nat) (g1 l1 g2 l2 g3 l3 : Value) (G1 L1 G2 L2 G3 L3 : LP) (wr : World) : Prop where
  di : Di W wr d a len cap zs
  a1 : Lsr d wr g1 G1
  a2 : Lsr d wr l1 L1
  b1 : Lsr d wr g2 G2
  b2 : Lsr d wr l2 L2
  c1 : Lsr d wr g3 G3
  c2 : Lsr d wr l3 L3
  P : wr.heap[bP]? = some (.cells #[g1, l1, g2, l2, g3, l3] 46 (0, 0))
  ne : bP ≠ d
section
variable {W : World} {d : Nat} {a : Option Addr} {len cap : Nat} {zs : List Int} {bP : Nat} {g1 l1 g2 l2 g3 l3 : Value} {G1 L1 G2 L2 G3 L3 : LP} {wr w' : World}
theorem RX.below (o : RX W d a len cap zs bP g1 l1 g2 l2 g3 l3 G1 L1 G2 L2 G3 L3 wr) (hb : Below wr.heap.size wr w') : RX W d a len cap zs bP g1 l1 g2 l2 g3 l3 G1 L1 G2 L2 G3 L3 w' :=
  ⟨o.di.below hb, o.a1.keep hb, o.a2.keep hb, o.b1.keep hb, o.b2.keep hb, o.c1.keep hb, o.c2.keep hb, Spn.hop hb o.P, o.ne⟩
theorem RX.left (o : RX W d a len cap zs bP g1 l1 g2 l2 g3 l3 G1 L1 G2 L2 G3 L3 wr) (hl : Dice.Left W wr w' d a len cap zs) : RX W d a len cap zs bP g1 l1 g2 l2 g3 l3 G1 L1 G2 L2 G3 L3 w' :=
  ⟨hl.di, o.a1.left hl, o.a2.left hl, o.b1.left hl, o.b2.left hl, o.c1.left hl, o.c2.left hl, (hl.far.block bP (Array.getElem?_eq_some_iff.1 o.P).1 (by have := o.ne; simpa using this)).trans o.P, o.ne⟩
end
/-- An own row with the spans of G; nil if there are none. -/
def OG (B : Nat) (G : LP) (v : Value) (w : World) : Prop := Spans w B v G ∧ (G = [] → v = .slice none 0 0)
theorem OG.keep {B : Nat} {G : LP} {v : Value} {w w' : World} (h : OG B G v w) (hb : ∀ k, v.ownBlock = some k → w'.heap[k]? = w.heap[k]?) : OG B G v w' := ⟨Sp.own_kept h.1 hb, h.2⟩
theorem OG.form {B : Nat} {G : LP} {v : Value} {w : World} (h : OG B G v w) : ∃ a c, v = .slice a G.length c := by
  obtain ⟨a, c, e, _⟩ := its_form (its_of_own h.1)
  exact ⟨a, c, e⟩
/-- append(nil, x...). -/
theorem wp_copyw {o : Oper} {a : Act} {K' : Act → World → Prop} {Q : Exit → Act → World → Prop} (x : Operand)
    (ho : o.op = .call { callee := .builtin .append, args := #[.const (.slice none 0 0), x], argTypes := #[23, 23] })
    {w : World} {u : Value} {K : LP} (hx : a.eval x = u) (hu : Itw w u K) (h9 : K.length ≤ 1000000)
    (hK : ∀ v' w', OG w.heap.size K v' w' → Below w.heap.size w w' → K' (a.put o.dst v') w') : o.wp Try.prog a w K' Q := by
  obtain ⟨j0, hj0, hz0', hz1', hz2'⟩ := info_get infoS
  have h0 : Spans w w.heap.size (.slice none 0 0) [] := World.ownsRow_nil _ _ _ _
  obtain ⟨v', w', hr, r1, r2, r3⟩ : ∃ v' w', (Builtin.append_ #[23, 23] o.type #[.slice none 0 0, u]).run Try.prog w = .ok v' w' ∧ Spans w' w.heap.size v' K ∧ w.grownBy w' none ∧ (K = [] → v' = .slice none 0 0) := by
    obtain ⟨ad, c, rfl, hc, _⟩ := itw_form hu
    rcases ad with _ | g
    · obtain rfl := hu.empty
      have hs : Src Try.prog j0.size 23 (.slice none 0 c) 0 [] w := Src.ofNil w Try.underlying23 c
      exact ⟨_, w, run_append_nothing w _ _ o.type 49 j0 Try.underlying23 hj0 none 0 0 (Nat.le_refl _) _ hs, h0, ⟨rfl, rfl, rfl, Nat.le_refl _, fun _ _ _ => rfl⟩, fun _ => rfl⟩
    · obtain ⟨v', w', hr, r2, r3, r4⟩ := run_append_own (P := Try.prog) w w.heap.size 23 o.type 49 j0 _ 2 16 Try.underlying23 hj0 hz0' hz1' hz2' rfl (by decide) (.slice none 0 0) 0 [] h0 g K.length c (cells2 K) (cells2_length K) (hu.rd rfl) (cells2_one K) (by unfold maxLen; omega) (by omega) (Nat.le_refl _)
      exact ⟨v', w', hr, by unfold Spans; simpa using r2, r3, fun e => r4.2 ⟨rfl, by rw [e]; rfl⟩⟩
  have hv : a.eval (.const (.slice none 0 0)) = .slice none 0 0 := rfl
  unfold Oper.wp execOp
  simp only [ho, resolve, invoke, builtin, Sem.run_bind, Sem.run_pure, Result.andThen_ok, List.map_toArray, List.map_cons, List.map_nil, hx, hv, hr]
  exact hK v' w' ⟨r1, r3⟩ ((Below.refl _ _).grown r2 (Nat.le_refl _) fun k hk => by cases hk)
/-- One span is appended to an own row: the old row, and blocks of two cells, stay. -/
theorem app_pre {w : World} {B b : Nat} {v : Value} {L : LP} {q1 q2 : Int} (h : OG B L v w) (hb : w.heap[b]? = some (.cells #[.int .i64 q1, .int .i64 q2] 49 (0, 0))) (hB : B ≤ w.heap.size) (h9 : L.length ≤ 1000) (ty : TypeId) :
    ∃ v' w', (Builtin.append_ #[23, 23] ty #[v, .slice (some ⟨b, 0, none⟩) 1 1]).run Try.prog w = .ok v' w' ∧ Spans w' B v' (L ++ [(q1, q2)]) ∧ w.grownBy w' v.ownBlock ∧ OG B L v w' ∧
      (∀ (k : Nat) (cs : Array Value) (T : TypeId), w.heap[k]? = some (.cells cs T (0, 0)) → (cs.size = 2 ∨ T ≠ 49) → w'.heap[k]? = some (.cells cs T (0, 0))) := by
  obtain ⟨j0, hj0, hz0', hz1', hz2'⟩ := info_get infoS
  obtain ⟨O, hn⟩ := h
  have one : ∀ u ∈ ([.int .i64 q1, .int .i64 q2] : List Value), u.oneCell' = true := by simp [Value.oneCell']
  obtain ⟨v', w', hr, r2, r3, _⟩ := run_append_own (P := Try.prog) w B 23 ty 49 j0 _ 2 16 Try.underlying23 hj0 hz0' hz1' hz2' rfl (by decide) v L.length (cells2 L) O ⟨b, 0, none⟩ 1 1 [.int .i64 q1, .int .i64 q2] rfl (World.news_of_block hb) one (by unfold maxLen; omega) (by omega) hB
  refine ⟨v', w', hr, by unfold Spans; rw [cells2_append, List.length_append]; exact r2, r3, ?_⟩
  rcases O.2 with ⟨rfl, _⟩ | ⟨g, cap, cur, rfl, hbg, hg, hnc, hcm, hcs, htake⟩
  · exact ⟨⟨Sp.own_kept O (fun k hk => by cases hk), hn⟩, fun k cs T hk _ => (r3.block k (Array.getElem?_eq_some_iff.1 hk).1 (by simp [Value.ownBlock])).trans hk⟩
  · have hL : 1 ≤ L.length := by
      rcases Nat.eq_zero_or_pos L.length with h0 | h0
      · have := hn (List.length_eq_zero_iff.1 h0)
        simp at this
      · exact h0
    by_cases room : L.length + 1 ≤ cap
    · have hr2 := run_append_room (P := Try.prog) w 23 ty 49 j0 Try.underlying23 hj0 g L.length cap cur hg ⟨b, 0, none⟩ 1 1 [.int .i64 q1, .int .i64 q2] (by rw [hz1']; rfl) (World.news_of_block hb) one room (by rw [hz1', hcs]; simp; omega)
      rw [hr2] at hr
      injection hr with _ hw
      subst hw
      have hcells := setRow_heap w g cur (cur.toList.take (L.length * j0.size) ++ ([.int .i64 q1, .int .i64 q2] : List Value) ++ cur.toList.drop (L.length * j0.size + 2)).toArray 49 (0, 0) hg
      refine ⟨⟨⟨O.1, .inr ⟨g, cap, _, rfl, hbg, hcells, hnc, hcm, ?_, ?_⟩⟩, hn⟩, fun k cs T hk hc => ?_⟩
      · simp only [hz1', List.size_toArray, List.length_append, List.length_take, List.length_drop, Array.length_toList, List.length_cons, List.length_nil]
        omega
      · simp only [hz1', List.append_assoc]
        rw [List.take_append_of_le_length (by simp; omega), List.take_take, Nat.min_self]
        exact htake
      · by_cases e : k = g
        · subst e
          rw [hg] at hk
          injection hk with hk
          injection hk with h1 h2 h3
          subst h1 h2
          rcases hc with hc | hc
          · omega
          · exact absurd rfl hc
        · rw [setRow_other w g k _ e]; exact hk
    · have hr2 := run_append_grow (P := Try.prog) w 23 ty 49 j0 _ Try.underlying23 hj0 hz0' ⟨g, 0, none⟩ L.length cap (cells2 L) (by rw [hz1']; exact O.1) (O.cells (g := g) rfl) ⟨b, 0, none⟩ 1 1 [.int .i64 q1, .int .i64 q2] (by rw [hz1']; rfl) (World.news_of_block hb) (by omega) (by omega) (growslice_fits (by omega) (by rw [hz2']; omega))
      rw [hr2] at hr
      injection hr with _ hw
      subst hw
      exact ⟨⟨Sp.own_kept O fun k hk => heap_alloc_old w.drew _ (O.lt k hk).2, hn⟩, fun k cs T hk _ => (heap_alloc_old w.drew _ (Array.getElem?_eq_some_iff.1 hk).1).trans hk⟩
/-- What the steps of the region that makes the odd receiver leave as it was. -/
structure RrO (B : Nat) (G L : LP) (k : Nat) (w w' : World) : Prop where
  A : ∀ v, OG B G v w → OG B G v w'
  B_ : ∀ v, OG B L v w → OG B L v w'
  C : ∀ (h : Nat), B ≤ h → ∀ (cs : Array Value) (T : TypeId), w.heap[h]? = some (.cells cs T (0, 0)) → (cs.size = 2 ∨ T ≠ 49) → w'.heap[h]? = some (.cells cs T (0, 0))
  D : k ≠ 12 → ∀ v M, Spans w B v M → Spans w' B v M
theorem RrO.below {B : Nat} {G L : LP} {k : Nat} {w w' : World} (h : Below w.heap.size w w') : RrO B G L k w w' :=
  ⟨fun v o => o.keep fun k hk => h.block k (o.1.lt k hk).2, fun v o => o.keep fun k hk => h.block k (o.1.lt k hk).2, fun b _ cs T hb _ => (h.block b (Array.getElem?_eq_some_iff.1 hb).1).trans hb, fun _ v M o => own_below o h⟩
theorem RrO.far {B d : Nat} {G L : LP} {k : Nat} {w w' : World} (h : w.grownBy w' (some d)) (hd : d < B) : RrO B G L k w w' :=
  have key : ∀ v M, Spans w B v M → ∀ k, v.ownBlock = some k → w'.heap[k]? = w.heap[k]? := fun v M o k hk => h.block k (o.lt k hk).2 (by have := (o.lt k hk).1; simp; omega)
  ⟨fun v o => o.keep (key v _ o.1), fun v o => o.keep (key v _ o.1), fun b hb cs T hh _ => (h.block b (Array.getElem?_eq_some_iff.1 hh).1 (by simp; omega)).trans hh, fun _ v M o => Sp.own_kept o (key v M o)⟩
theorem wp_of_run {o : Oper} {a : Act} {K' : Act → World → Prop} {Q : Exit → Act → World → Prop} (s x : Operand)
    (ho : o.op = .call { callee := .builtin .append, args := #[s, x], argTypes := #[23, 23] })
    {w w' : World} {v u r : Value} (hv : a.eval s = v) (hx : a.eval x = u) (hr : (Builtin.append_ #[23, 23] o.type #[v, u]).run Try.prog w = .ok r w') (hK : K' (a.put o.dst r) w') : o.wp Try.prog a w K' Q := by
  unfold Oper.wp execOp
  simp only [ho, resolve, invoke, builtin, Sem.run_bind, Sem.run_pure, Result.andThen_ok, List.map_toArray, List.map_cons, List.map_nil, hv, hx, hr]
  exact hK
theorem left_app {W w w1 w2 : World} {d N : Nat} {a : Option Addr} {len cap : Nat} {zs : List Int} {v : Value} {L : LP} (h : Dice.Left W w w1 d a len cap zs) (g : w1.grownBy w2 v.ownBlock) (O : Spans w1 N v L) (hd : d < N) (hN : N = w.heap.size) : Dice.Left W w w2 d a len cap zs := by
  have hb : Below N w1 w2 := (Below.refl _ _).grown g (by rw [hN]; exact h.far.size) fun k hk => (O.lt k hk).1
  have hblk : ∀ k, k < N → w2.heap[k]? = w1.heap[k]? := fun k hk => hb.block k hk
  obtain ⟨p, hp, hp2⟩ := h.di.blk
  refine ⟨⟨h.di.base, Nat.lt_of_lt_of_le h.di.lt g.size, ?_, h.di.row, h.di.small, p, hp, (hblk d hd).trans hp2⟩, ?_⟩
  · exact ⟨g.os.trans h.di.bel.os, g.tape.trans h.di.bel.tape, g.output.trans h.di.bel.output, Nat.le_trans h.di.bel.size g.size, fun k hk => (hblk k (by have := h.di.base; omega)).trans (h.di.bel.block k hk)⟩
  · exact ⟨g.os.trans h.far.os, g.tape.trans h.far.tape, g.output.trans h.far.output, Nat.le_trans h.far.size g.size, fun k hk hne => (hblk k (by omega)).trans (h.far.block k hk hne)⟩
theorem own_same {w : World} {B : Nat} {v u : Value} {L : LP} (h : Spans w B v L) (k : Spans w B u L) (e : v.ownBlock = u.ownBlock) : v = u := by
  rcases h.2 with ⟨rfl, h0⟩ | ⟨g, cap, cur, rfl, _, hg, _, _, hcs, _⟩
  · rcases k.2 with ⟨rfl, _⟩ | ⟨g', cap', cur', rfl, _, hg', _, _, hcs', _⟩
    · rfl
    · simp [Value.ownBlock] at e
  · rcases k.2 with ⟨rfl, _⟩ | ⟨g', cap', cur', rfl, _, hg', _, _, hcs', _⟩
    · simp [Value.ownBlock] at e
    · have : g = g' := by simpa [Value.ownBlock] using e
      subst this
      rw [hg] at hg'
      injection hg' with hg'
      injection hg' with h1
      subst h1
      have : cap = cap' := by omega
      subst this
      rfl
theorem RrO.app {w w' : World} {B : Nat} {v : Value} {G L : LP} (h : OG B L v w) (hg : w.grownBy w' v.ownBlock) (ho : OG B L v w')
    (hc : ∀ (k : Nat) (cs : Array Value) (T : TypeId), w.heap[k]? = some (.cells cs T (0, 0)) → (cs.size = 2 ∨ T ≠ 49) → w'.heap[k]? = some (.cells cs T (0, 0))) (ap : ∀ x, (hasB G x && hasB L x) = false) (oG : ∀ p ∈ G, p.1 < p.2) (oL : ∀ p ∈ L, p.1 < p.2) : RrO B G L 12 w w' := by
  refine ⟨fun u o => ?_, fun u o => ?_, fun k _ cs T hk h2 => hc k cs T hk h2, fun n => absurd rfl n⟩
  · refine o.keep fun k hk => hg.block k (o.1.lt k hk).2 fun e => ?_
    cases G with
    | nil => have := o.2 rfl; subst this; cases hk
    | cons q G =>
      cases L with
      | nil => have := h.2 rfl; subst this; cases e
      | cons p L =>
        obtain ⟨ad, c, rfl, _, hf⟩ := its_form (its_of_own o.1)
        obtain ⟨g, e1, _, k0, _⟩ := hf 0 q rfl
        obtain ⟨ad', c', rfl, _, hf'⟩ := its_form (its_of_own h.1)
        obtain ⟨g', e1', _, k0', _⟩ := hf' 0 p rfl
        subst e1 e1'
        have e2 : k = g := by simpa [Value.ownBlock] using hk.symm
        have e3 : k = g' := by simpa [Value.ownBlock] using e
        subst e2 e3
        rw [k0] at k0'
        have e2 : q.1 = p.1 := by simpa using k0'
        have hq : hasB (q :: G) q.1 = true := hasB_iff.2 ⟨q, by simp, Int.le_refl _, oG q (by simp)⟩
        have hp2 : hasB (p :: L) q.1 = true := hasB_iff.2 ⟨p, by simp, by omega, by have := oL p (by simp); omega⟩
        have := ap q.1
        rw [hq, hp2] at this
        cases this
  · by_cases e : u.ownBlock = v.ownBlock
    · obtain rfl := own_same o.1 h.1 e
      exact ho
    · refine o.keep fun k hk => hg.block k (o.1.lt k hk).2 fun e2 => e (by rw [hk, e2])
end Laws
end Go.Proofs.Ytfmhfhggogjbkaa
