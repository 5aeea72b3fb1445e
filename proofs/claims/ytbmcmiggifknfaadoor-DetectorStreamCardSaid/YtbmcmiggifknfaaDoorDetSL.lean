/- The memory of DetectorStream's loop; a push behind n samples; append of a list of triggers. -/
import Derived.Test.YtbmcmiggifknfaaDoorDetPush
import Derived.Test.YtbmcmiggifknfaaDoorDetWG
import Derived.Test.YtbmcmiggifknfaaDoorDetO
import Derived.Test.YtbmcmiggifknfaaDoorDetQ
import Derived.Deep.AppendSrc
import Derived.Deep.Upon
import Derived.Laws.AppendOwn
set_option linter.unusedVariables false
set_option linter.unusedSimpArgs false
namespace Go.Proofs.YtbmcmiggifknfaaDoor
open Go.RowKit Wi Dice
namespace Det
theorem row_app (l m : List Tr) : row (l ++ m) = row l ++ row m := by unfold row; rw [List.map_append, Tri.cells_append]
theorem row_len (l : List Tr) : (row l).length = l.length * 3 := by unfold row; rw [Tri.cells_length, List.length_map]
theorem row_one (l : List Tr) : ∀ u ∈ row l, u.oneCell' = true := by
  intro u hu
  unfold row Tri.cells at hu
  obtain ⟨p, _, h⟩ := List.mem_flatMap.1 hu
  simp only [List.mem_cons, List.not_mem_nil, or_false] at h
  rcases h with rfl | rfl | rfl <;> rfl
/-- A list of triggers is appended to another one. -/
theorem run_rows {w : World} {B B2 : Nat} {v u : Value} {n m : Nat} {l k : List Tr} (h : w.ownsRow B 32 3 v n (row l)) (hu : w.ownsRow B2 32 3 u m (row k)) (hB : B ≤ w.heap.size) (h9 : n + m ≤ 1000000) (ty : TypeId) :
    ∃ v' w', (Builtin.append_ #[38, 38] ty #[v, u]).run Tryd.prog w = .ok v' w' ∧ w'.ownsRow B 32 3 v' (n + m) (row (l ++ k)) ∧ w.grownBy w' v.ownBlock := by
  obtain ⟨j0, hj0, hz0', hz1', hz2'⟩ := info_parts infoT
  rw [row_app]
  rcases hu.2 with ⟨rfl, rfl⟩ | ⟨g, c, cur, rfl, hb, hg, h1, h2, h3, h4⟩
  · have hk : row k = [] := List.eq_nil_of_length_eq_zero (by rw [hu.1])
    rw [hk, List.append_nil, Nat.add_zero]
    have hs : Src Tryd.prog j0.size 38 (.slice none 0 0) 0 [] w := Src.ofNil w Tryd.underlying38 0
    rcases h.2 with ⟨rfl, rfl⟩ | ⟨g, c, cur, rfl, hb, hg, h1, h2, h3, h4⟩
    · exact ⟨_, w, run_append_nothing w _ _ ty 32 j0 Tryd.underlying38 hj0 none 0 0 (Nat.le_refl _) _ hs, h, ⟨rfl, rfl, rfl, Nat.le_refl _, fun _ _ _ => rfl⟩⟩
    · exact ⟨_, w, run_append_nothing w _ _ ty 32 j0 Tryd.underlying38 hj0 _ n c h1 _ hs, h, ⟨rfl, rfl, rfl, Nat.le_refl _, fun _ _ _ => rfl⟩⟩
  · obtain ⟨v', w', hr, r2, r3, _⟩ := run_append_own (P := Tryd.prog) w B 38 ty 32 j0 _ 3 24 Tryd.underlying38 hj0 hz0' hz1' hz2' rfl (by decide) v n (row l) h ⟨g, 0, none⟩ m c (row k) hu.1 (fun j x hx => by
      have hj : j < m * 3 := by have := (List.getElem?_eq_some_iff.1 hx).1; rw [hu.1] at this; exact this
      rw [Addr.add_lit, Nat.zero_add, hu.cellAt j hj]
      exact hx) (row_one k) (by unfold maxLen; omega) (by omega) hB
    exact ⟨v', w', hr, r2, r3⟩
section
/-- The append at one operation. -/
theorem wp_rows {o : Oper} {a : Act} {K : Act → World → Prop} {Q : Exit → Act → World → Prop} (s x : Operand)
    (ho : o.op = .call { callee := .builtin .append, args := #[s, x], argTypes := #[38, 38] })
    {w : World} {B B2 : Nat} {v u : Value} {n m : Nat} {l k : List Tr} (hv : a.eval s = v) (hx : a.eval x = u) (h : w.ownsRow B 32 3 v n (row l)) (hu : w.ownsRow B2 32 3 u m (row k)) (hB : B ≤ w.heap.size) (h9 : n + m ≤ 1000000)
    (hK : ∀ v' w', w'.ownsRow B 32 3 v' (n + m) (row (l ++ k)) → w.grownBy w' v.ownBlock → K (a.put o.dst v') w') : o.wp Tryd.prog a w K Q := by
  obtain ⟨v', w', hr, r1, r2⟩ := run_rows h hu hB h9 o.type
  unfold Oper.wp execOp
  simp only [ho, resolve, invoke, builtin, Sem.run_bind, Sem.run_pure, Result.andThen_ok, List.map_toArray, List.map_cons, List.map_nil, hv, hx, hr]
  exact hK v' w' r1 r2
/-- At a list, behind a guard that holds. -/
theorem wpl_rows {ops : Array Oper} {rest : List Oper} {o : Oper} {a : Act} {Q : Exit → Act → World → Prop} (s x : Operand) {w : World} {B B2 : Nat} {v u : Value} {n m : Nat} {l k : List Tr}
    (h : w.ownsRow B 32 3 v n (row l)) (hu : w.ownsRow B2 32 3 u m (row k)) (hB : B ≤ w.heap.size) (h9 : n + m ≤ 1000000)
    (ho : o.op = .call { callee := .builtin .append, args := #[s, x], argTypes := #[38, 38] })
    (hw : Region.wanted o (yielded ops a.tmps) = true) (hv : a.eval s = v) (hx : a.eval x = u)
    (hK : ∀ v' w', w'.ownsRow B 32 3 v' (n + m) (row (l ++ k)) → w.grownBy w' v.ownBlock → wpList Tryd.prog ops Q rest (a.put o.dst v') w') : wpList Tryd.prog ops Q (o :: rest) a w :=
  Mid.wpList_on hw fun K hKK => wp_rows s x ho hv hx h hu hB h9 fun v' w' h1 h2 => hKK _ _ (hK v' w' h1 h2)
end
theorem sv_grown {w w' : World} {v : Value} {n g : Nat} {X : Nat → Int} (h : SV w v n X) (hg : w.grownBy w' (some g)) (hne : ∀ b, v.ownBlock = some b → b ≠ g) : SV w' v n X := by
  obtain ⟨a, c, e, h1, h2, h3⟩ := h
  refine ⟨a, c, e, h1, h2, fun hn => ?_⟩
  obtain ⟨b, off, e', hlt, hc⟩ := h3 hn
  have hb : b ≠ g := hne b (by rw [e, e']; rfl)
  exact ⟨b, off, e', Nat.lt_of_lt_of_le hlt hg.size, fun j hj => hg.cell (hc j hj) (fun e => hb (by cases e; rfl))⟩
theorem sv_grownv {w w' : World} {v u : Value} {n : Nat} {X : Nat → Int} (h : SV w v n X) (hg : w.grownBy w' u.ownBlock) (hne : ∀ b, v.ownBlock = some b → u.ownBlock ≠ some b) : SV w' v n X := by
  obtain ⟨a, c, e, h1, h2, h3⟩ := h
  refine ⟨a, c, e, h1, h2, fun hn => ?_⟩
  obtain ⟨b, off, e', hlt, hc⟩ := h3 hn
  have hb := hne b (by rw [e, e']; rfl)
  exact ⟨b, off, e', Nat.lt_of_lt_of_le hlt hg.size, fun j hj => hg.cell (hc j hj) (fun e => hb e.symm)⟩
/-- The loop's memory behind n samples. -/
structure DL (W wS w : World) (g : Nat) (a : Option Addr) (len cap : Nat) (zs : List Int) (p6 S L : Nat) (ON OFF : Int) (V : Nat → Int) (n : Nat) (out : Value) : Prop where
  size : wS.heap.size ≤ w.heap.size
  keep : ∀ k, k < wS.heap.size → k ≠ g → k ≠ p6 → w.heap[k]? = wS.heap[k]?
  di : Di W w g a len cap zs
  own : w.ownsRow wS.heap.size 32 3 out (scn ⟨S, L, ON, OFF⟩ V n).1.length (row (scn ⟨S, L, ON, OFF⟩ V n).1)
  feed : ∃ pa pc, w.heap[p6]? = some (.cells #[.int .i64 S, .int .i64 L, .int .i64 ON, .int .i64 OFF, .slice pa (kept ⟨S, L, ON, OFF⟩ n) pc, .int .i64 (n : Int), .int .i64 (scn ⟨S, L, ON, OFF⟩ V n).2.on, .int .i64 (scn ⟨S, L, ON, OFF⟩ V n).2.off, .int .i64 (scn ⟨S, L, ON, OFF⟩ V n).2.pk] 34 (0, 0)) ∧ SV w (.slice pa (kept ⟨S, L, ON, OFF⟩ n) pc) (kept ⟨S, L, ON, OFF⟩ n) (fun j => V (n - kept ⟨S, L, ON, OFF⟩ n + j)) ∧ ∀ b, Value.ownBlock (.slice pa (kept ⟨S, L, ON, OFF⟩ n) pc) = some b → wS.heap.size ≤ b
section
variable {W wS w w' : World} {g : Nat} {a : Option Addr} {len cap : Nat} {zs : List Int} {p6 S L : Nat} {ON OFF : Int} {V : Nat → Int} {n : Nat} {out : Value}
theorem DL.below (h : DL W wS w g a len cap zs p6 S L ON OFF V n out) (hb : Below w.heap.size w w') : DL W wS w' g a len cap zs p6 S L ON OFF V n out := by
  refine ⟨Nat.le_trans h.size hb.size, fun k h1 h2 h3 => (hb.block k (Nat.lt_of_lt_of_le h1 h.size)).trans (h.keep k h1 h2 h3), h.di.below hb, row_below h.own hb, ?_⟩
  obtain ⟨pa, pc, h1, h2, h3⟩ := h.feed
  exact ⟨pa, pc, hbk hb h1, h2.below hb, h3⟩
theorem DL.left (h : DL W wS w g a len cap zs p6 S L ON OFF V n out) (hg : g < wS.heap.size) (hne : p6 ≠ g) (hl : Dice.Left W w w' g a len cap zs) : DL W wS w' g a len cap zs p6 S L ON OFF V n out := by
  refine ⟨Nat.le_trans h.size hl.far.size, fun k h1 h2 h3 => (hl.far.block k (Nat.lt_of_lt_of_le h1 h.size) (by simpa using h2)).trans (h.keep k h1 h2 h3), hl.di, row_grown h.own hl.far hg, ?_⟩
  obtain ⟨pa, pc, h1, h2, h3⟩ := h.feed
  exact ⟨pa, pc, (hl.far.block p6 (Array.getElem?_eq_some_iff.1 h1).1 (by simpa using hne)).trans h1, sv_grown h2 hl.far (fun b hb => by have := h3 b hb; omega), h3⟩
/-- What lies below the loop's own blocks stays. -/
theorem DL.old (h : DL W wS w g a len cap zs p6 S L ON OFF V n out) {v : Value} {m : Nat} {Y : Nat → Int} (hs : SV wS v m Y) (h1 : ∀ b, v.ownBlock = some b → b ≠ g ∧ b ≠ p6) : SV w v m Y := by
  obtain ⟨x, c, e, e1, e2, e3⟩ := hs
  refine ⟨x, c, e, e1, e2, fun h0 => ?_⟩
  obtain ⟨b, off, rfl, hb, hc⟩ := e3 h0
  obtain ⟨n1, n2⟩ := h1 b (by rw [e]; rfl)
  exact ⟨b, off, rfl, Nat.lt_of_lt_of_le hb h.size, fun j hj => (World.cell?_of_block (h.keep b hb n1 n2)).trans (hc j hj)⟩
/-- What Push returns: the watch, the list, both. -/
def PA (B S L : Nat) (ON OFF : Int) (V : Nat → Int) (q : Nat) (v : Value) (w : World) : Prop := ∃ na nc, v = .agg #[.int .i64 S, .int .i64 L, .int .i64 ON, .int .i64 OFF, .slice na (kept ⟨S, L, ON, OFF⟩ q) nc, .int .i64 (q : Int), .int .i64 (scn ⟨S, L, ON, OFF⟩ V q).2.on, .int .i64 (scn ⟨S, L, ON, OFF⟩ V q).2.off, .int .i64 (scn ⟨S, L, ON, OFF⟩ V q).2.pk] ∧ SV w (.slice na (kept ⟨S, L, ON, OFF⟩ q) nc) (kept ⟨S, L, ON, OFF⟩ q) (fun j => V (q - kept ⟨S, L, ON, OFF⟩ q + j)) ∧ Ty w (.slice na (kept ⟨S, L, ON, OFF⟩ q) nc) ∧ ∀ b, Value.ownBlock (.slice na (kept ⟨S, L, ON, OFF⟩ q) nc) = some b → B ≤ b
def PL (B : Nat) (l : List Tr) (v : Value) (w : World) : Prop := w.ownsRow B 32 3 v l.length (row l)
def PT (B S L : Nat) (ON OFF : Int) (V : Nat → Int) (q : Nat) (l : List Tr) (v : Value) (w : World) : Prop := ∃ x y, v = .tuple #[x, y, .int .i64 0] ∧ PA B S L ON OFF V q x w ∧ PL B l y w
theorem PA.below {B q : Nat} {v : Value} (h : PA B S L ON OFF V q v w) (hb : Below w.heap.size w w') : PA B S L ON OFF V q v w' := by
  obtain ⟨x, c, e, h1, h2, h3⟩ := h
  exact ⟨x, c, e, h1.below hb, fun b e => (h2 b e).imp fun _ h => hbk hb h, h3⟩
theorem PL.below {B : Nat} {l : List Tr} {v : Value} (h : PL B l v w) (hb : Below w.heap.size w w') : PL B l v w' := row_below h hb
theorem PT.below {B q : Nat} {l : List Tr} {v : Value} (h : PT B S L ON OFF V q l v w) (hb : Below w.heap.size w w') : PT B S L ON OFF V q l v w' := by
  obtain ⟨x, y, e, h1, h2⟩ := h
  exact ⟨x, y, e, h1.below hb, h2.below hb⟩
theorem sv_mid {w : World} {a : Option Addr} {L c : Nat} {X : Nat → Int} (h : SV w (.slice a L c) L X) (p q : Nat) (hp : p ≤ q) (hq : q ≤ L) : SV w (.slice (if c = p then a else Option.map (fun x => x.add p) a) (q - p) (c - p)) (q - p) (fun j => X (p + j)) := by
  obtain ⟨a', c', e, h1, h2, h3⟩ := h
  cases e
  refine ⟨_, _, rfl, by omega, by omega, fun h0 => ?_⟩
  obtain ⟨b, off, rfl, hb, hc⟩ := h3 (by omega)
  refine ⟨b, off + p, ?_, hb, fun j hj => ?_⟩
  · rw [if_neg (by omega)]; simp [Addr.add]
  · rw [Nat.add_assoc]; exact hc (p + j) (by omega)
theorem scn_pre (d : Dt) (V : Nat → Int) (hS : d.S ≤ d.L) (hL : 1 ≤ d.L) {n q : Nat} (hq : n ≤ q) : ∃ se, (scn d V q).1 = (scn d V n).1 ++ se := by
  have P := push_scn d (U := fun j => V (n - kept d n + j)) (V := V) (D := n - kept d n) (n := n) (fun j => rfl) hS (by unfold kept; omega) hL (q - n)
  rw [show n + (q - n) = q by omega] at P
  exact ⟨_, congrArg Prod.fst P⟩
/-- A push behind n samples. -/
theorem push_round {B N q : Nat} {X : Nat → Int} {pv u : Value} {se : List Tr} (hd : DG ⟨S, L, ON, OFF⟩) (hN : N ≤ 1000) (hX : ∀ j, j < N → -1073741823 ≤ X j ∧ X j ≤ 1073741823) (hx : SV w pv (kept ⟨S, L, ON, OFF⟩ n) (fun j => ab X (n - kept ⟨S, L, ON, OFF⟩ n + j))) (hcl : Cl w) (hn : n < q) (hq : q ≤ N) (hse : (scn ⟨S, L, ON, OFF⟩ (ab X) q).1 = (scn ⟨S, L, ON, OFF⟩ (ab X) n).1 ++ se) (hu : SV w u (q - n) (fun j => X (n + j))) (hB : B ≤ w.heap.size) :
    Calls Tryd.prog 14 #[.agg #[.int .i64 S, .int .i64 L, .int .i64 ON, .int .i64 OFF, pv, .int .i64 (n : Int), .int .i64 (scn ⟨S, L, ON, OFF⟩ (ab X) n).2.on, .int .i64 (scn ⟨S, L, ON, OFF⟩ (ab X) n).2.off, .int .i64 (scn ⟨S, L, ON, OFF⟩ (ab X) n).2.pk], u] w fun e w' => (∃ v, e = .returned v ∧ PT B S L ON OFF (ab X) q se v w') ∧ Below w.heap.size w w' := by
  have s1 := hd.s1
  have sl := hd.sl
  simp only at s1 sl
  have hV : ∀ j, j < N → 0 ≤ ab X j ∧ ab X j ≤ 1073741823 := fun j hj => by have := hX j hj; unfold ab; omega
  have G := wg_at ⟨S, L, ON, OFF⟩ (ab X) N n hV (by omega) hN (by show 1 ≤ L; omega)
  have hk : kept ⟨S, L, ON, OFF⟩ n = min n (L - 1) := rfl
  have hkq : kept ⟨S, L, ON, OFF⟩ q = min q (L - 1) := rfl
  have P := push_scn ⟨S, L, ON, OFF⟩ (U := fun j => ab X (n - kept ⟨S, L, ON, OFF⟩ n + j)) (V := ab X) (D := n - kept ⟨S, L, ON, OFF⟩ n) (n := n) (fun j => rfl) (by show S ≤ L; omega) (by omega) (by show 1 ≤ L; omega) (q - n)
  rw [show n + (q - n) = q by omega] at P
  have C := push_any hd hx G hcl hu (by omega) (by omega) (fun j hj => hX _ (by omega)) (by omega) (by omega) (fun j hj => by show ab X (n + j) = ab X _; congr 1; omega)
  obtain rfl := List.append_cancel_left (hse.symm.trans (congrArg Prod.fst P))
  refine C.mono ?_
  rintro e w2 ⟨⟨v, pn, rfl, r1, r2, r3, r4⟩, hb⟩
  refine ⟨⟨_, rfl, _, _, rfl, ?_, own_mono r1 hB⟩, hb⟩
  have e2 : min (kept ⟨S, L, ON, OFF⟩ n + (q - n)) (L - 1) = kept ⟨S, L, ON, OFF⟩ q := by omega
  rw [e2] at r2
  obtain ⟨na, nc, rfl, _⟩ := sv_form r2
  refine ⟨na, nc, ?_, sv_congr r2 (fun j hj => ?_), r4, fun b hb => Nat.le_trans hB (r3 b hb)⟩
  · rw [P, show n + (q - n) = q by omega]
  · show ab X _ = ab X _
    congr 1
    omega
/-- One round on: the list has grown, the watch was stored. -/
theorem DL.round {q B : Nat} {v' : Value} {se : List Tr} {na : Option Addr} {nc : Nat} (h : DL W wS w g a len cap zs p6 S L ON OFF V n out) (own' : w'.ownsRow wS.heap.size 32 3 v' ((scn ⟨S, L, ON, OFF⟩ V n).1.length + se.length) (row ((scn ⟨S, L, ON, OFF⟩ V n).1 ++ se))) (hg : w.grownBy w' out.ownBlock) (hse : (scn ⟨S, L, ON, OFF⟩ V q).1 = (scn ⟨S, L, ON, OFF⟩ V n).1 ++ se)
    (hB : wS.heap.size ≤ B) (hu : ∀ k, out.ownBlock = some k → k < B) (hS : SV w (.slice na (kept ⟨S, L, ON, OFF⟩ q) nc) (kept ⟨S, L, ON, OFF⟩ q) (fun j => V (q - kept ⟨S, L, ON, OFF⟩ q + j))) (hb : ∀ b, Value.ownBlock (.slice na (kept ⟨S, L, ON, OFF⟩ q) nc) = some b → B ≤ b)
    (hgS : g < wS.heap.size) (h6 : p6 < wS.heap.size) (hne : g < p6) :
    DL W wS (w'.setRow p6 #[.int .i64 S, .int .i64 L, .int .i64 ON, .int .i64 OFF, .slice na (kept ⟨S, L, ON, OFF⟩ q) nc, .int .i64 (q : Int), .int .i64 (scn ⟨S, L, ON, OFF⟩ V q).2.on, .int .i64 (scn ⟨S, L, ON, OFF⟩ V q).2.off, .int .i64 (scn ⟨S, L, ON, OFF⟩ V q).2.pk]) g a len cap zs p6 S L ON OFF V q v' := by
  obtain ⟨pa, pc, P6, -, -⟩ := h.feed
  have ob := h.own.lt
  have sz := h.size
  have P6' := (hg.block p6 (by omega) (fun e => by have := (ob p6 e.symm).1; omega)).trans P6
  have bel : Below W.heap.size W w' := h.di.bel.grown hg h.di.bel.size (fun k hk => by have := (ob k hk).1; have := h.di.base; omega)
  have S1 := sv_grownv hS hg (fun b e e' => by have := hu b e'; have := hb b e; omega)
  have oth : ∀ k, k ≠ p6 → (w'.setRow p6 #[.int .i64 S, .int .i64 L, .int .i64 ON, .int .i64 OFF, .slice na (kept ⟨S, L, ON, OFF⟩ q) nc, .int .i64 (q : Int), .int .i64 (scn ⟨S, L, ON, OFF⟩ V q).2.on, .int .i64 (scn ⟨S, L, ON, OFF⟩ V q).2.off, .int .i64 (scn ⟨S, L, ON, OFF⟩ V q).2.pk]).heap[k]? = w'.heap[k]? := fun k hk => setRow_other _ _ _ _ hk
  refine ⟨by have := hg.size; rw [size_setRow]; omega, fun k h1 h2 h3 => ?_, ?_, ?_, ⟨na, nc, setRow_heap _ _ _ _ _ _ P6', ?_, fun b e => Nat.le_trans hB (hb b e)⟩⟩
  · exact (oth k h3).trans ((hg.block k (by omega) (fun e => by have := (ob k e.symm).1; omega)).trans (h.keep k h1 h2 h3))
  · refine ⟨h.di.base, by have := hg.size; have := h.di.lt; rw [size_setRow]; omega, Mid.below_row bel _ _ (by have := h.di.base; omega), h.di.row, h.di.small, ?_⟩
    obtain ⟨pos, hp, hk⟩ := h.di.blk
    exact ⟨pos, hp, (oth g (by omega)).trans ((hg.block _ h.di.lt (fun e => by have := (ob _ e.symm).1; omega)).trans hk)⟩
  · rw [hse, List.length_append]
    exact own_kept own' (fun k hk => oth k (by have := (own'.lt k hk).1; omega))
  · obtain ⟨x, c, e, e1, e2, e3⟩ := S1
    refine ⟨x, c, e, e1, e2, fun h0 => ?_⟩
    obtain ⟨b, off, rfl, hbl, hc⟩ := e3 h0
    have hbb := hb b (by rw [e]; rfl)
    exact ⟨b, off, rfl, by rw [size_setRow]; exact hbl, fun j hj => (World.cell?_of_block (oth b (by omega))).trans (hc j hj)⟩
end
/-- The store of a watch leaves what lies in blocks of other types. -/
theorem sv_put {w : World} {p : Nat} {v : Value} {n : Nat} {X : Nat → Int} {c0 cs : Array Value} (hp : w.heap[p]? = some (.cells c0 34 (0, 0))) (h : SV w v n X) (ht : Ty w v) : SV (w.setRow p cs) v n X := by
  obtain ⟨x, c, e, e1, e2, e3⟩ := h
  refine ⟨x, c, e, e1, e2, fun h0 => ?_⟩
  obtain ⟨b, off, rfl, hbl, hc⟩ := e3 h0
  have hne : b ≠ p := fun hbp => by
    obtain ⟨cc, h⟩ := ht b (by rw [e]; rfl)
    rw [hbp, hp] at h
    simp at h
  exact ⟨b, off, rfl, by rw [size_setRow]; exact hbl, fun j hj => (World.cell?_of_block (setRow_other _ _ _ _ hne)).trans (hc j hj)⟩
theorem pl_put {w : World} {p B : Nat} {v : Value} {l : List Tr} {c0 cs : Array Value} (hp : w.heap[p]? = some (.cells c0 34 (0, 0))) (h : PL B l v w) : PL B l v (w.setRow p cs) :=
  own_kept h fun k hk => setRow_other _ _ _ _ fun hkp => by
    rcases h.2 with ⟨rfl, _⟩ | ⟨g, c, cur, rfl, _, hg, _⟩
    · cases hk
    · cases hk
      simp only at hkp
      rw [hkp, hp] at hg
      simp at hg
/-- What Finish returns, as a row. -/
theorem fin_row {w w' : World} {on off pk : Int} {q : Value} (h : (on < 0 ∧ q = .slice none 0 0) ∨ (0 ≤ on ∧ ∃ b, q = .slice (some ⟨b, 0, none⟩) 1 1 ∧ w.heap.size ≤ b ∧ w'.heap[b]? = some (.cells #[.int .i64 on, .int .i64 off, .int .i64 pk] 32 (0, 0)))) :
    ∃ k : List Tr, k = (if on < 0 then [] else [⟨on, off, pk⟩]) ∧ w'.ownsRow w.heap.size 32 3 q k.length (row k) ∧ k.length ≤ 1 := by
  rcases h with ⟨h, rfl⟩ | ⟨h, b, rfl, h1, h2⟩
  · exact ⟨[], by rw [if_pos h], World.ownsRow_nil _ _ _ _, by simp⟩
  · refine ⟨[⟨on, off, pk⟩], by rw [if_neg (by omega)], ⟨rfl, .inr ⟨b, 1, _, rfl, h1, h2, Nat.le_refl _, by decide, rfl, rfl⟩⟩, by simp⟩
end Det
end Go.Proofs.YtbmcmiggifknfaaDoor
