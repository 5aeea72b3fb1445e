/- LlSX: texts joined. -/
import Derived.Test.YtldgihlhioeipaaLocMF
import Derived.BigQuiet
import Derived.Deep.QuietTactic
import Derived.Test.YtldgihlhioeipaaLlGQ
import Derived.Test.YtldgihlhioeipaaRefB
import Derived.Test.YtldgihlhioeipaaRefA
import Derived.Test.YtldgihlhioeipaaResMid
import Derived.Laws.OwnMore
import Derived.Deep.DeepCutAuto
import Derived.Lib.MinMax
/- The reference's search: the mathematics of its list, and that it is the search of the heap. -/
set_option linter.unusedVariables false
namespace Go.Proofs.Ytldgihlhioeipaa
namespace Loc
/-- An element of the reference's list: an open box, and whether it has been taken. -/
structure OD where
  o : OB
  dn : Bool
def od0 : OD := ⟨ob0, false⟩
def gd (L : List OD) (k : Nat) : OD := L.getD k od0
theorem gd_mem {L : List OD} {k : Nat} (h : k < L.length) : gd L k ∈ L := by
  unfold gd; rw [List.getD_eq_getElem?_getD, List.getElem?_eq_getElem h]; exact List.getElem_mem h
theorem gd_of {L : List OD} {o : OD} (h : o ∈ L) : ∃ k, k < L.length ∧ gd L k = o := by
  obtain ⟨k, hk⟩ := List.getElem?_of_mem h
  exact ⟨k, (List.getElem?_eq_some_iff.1 hk).1, by unfold gd; rw [List.getD_eq_getElem?_getD, hk]; rfl⟩
theorem gd_set {L : List OD} {k : Nat} (hk : k < L.length) (x : OD) (i : Nat) : gd (L.set k x) i = if i = k then x else gd L i := by
  unfold gd
  simp only [List.getD_eq_getElem?_getD, List.getElem?_set]
  by_cases h : k = i
  · subst h; simp [hk]
  · simp [h, Ne.symm h]
theorem gd_left {L M : List OD} {k : Nat} (h : k < L.length) : gd (L ++ M) k = gd L k := by
  unfold gd; rw [List.getD_eq_getElem?_getD, List.getElem?_append_left h, List.getD_eq_getElem?_getD]
theorem gd_last {L : List OD} {x : OD} : gd (L ++ [x]) L.length = x := by
  unfold gd; rw [List.getD_eq_getElem?_getD, List.getElem?_append_right (Nat.le_refl _)]; simp
/-- The index of the first one with the least bound among the first n that are not taken, or -1. -/
def nxt (L : List OD) : Nat → Int
  | 0 => -1
  | i + 1 => if (gd L i).dn = false ∧ (nxt L i < 0 ∨ (gd L i).o.bd < (gd L (nxt L i).toNat).o.bd) then (i : Int) else nxt L i
theorem nxt_said (L : List OD) : ∀ n, (nxt L n = -1 ∧ ∀ i, i < n → (gd L i).dn = true) ∨
    ∃ k : Nat, nxt L n = (k : Int) ∧ k < n ∧ (gd L k).dn = false ∧ ∀ i, i < n → (gd L i).dn = false → (gd L k).o.bd < (gd L i).o.bd ∨ ((gd L k).o.bd = (gd L i).o.bd ∧ k ≤ i)
  | 0 => .inl ⟨rfl, fun i h => absurd h (Nat.not_lt_zero _)⟩
  | n + 1 => by
    rcases nxt_said L n with ⟨h1, h2⟩ | ⟨k, h1, h2, h3, h4⟩
    · by_cases hd : (gd L n).dn = false
      · refine .inr ⟨n, ?_, by omega, hd, fun i hi hf => ?_⟩
        · unfold nxt; rw [h1, if_pos ⟨hd, .inl (by decide)⟩]
        · by_cases e : i = n
          · subst e; exact .inr ⟨rfl, Nat.le_refl _⟩
          · rw [h2 i (by omega)] at hf; cases hf
      · refine .inl ⟨?_, fun i hi => ?_⟩
        · unfold nxt; rw [if_neg (fun q => hd q.1)]; exact h1
        · by_cases e : i = n
          · subst e; simpa using hd
          · exact h2 i (by omega)
    · have e0 : (nxt L n).toNat = k := by rw [h1]; rfl
      by_cases hc : (gd L n).dn = false ∧ (nxt L n < 0 ∨ (gd L n).o.bd < (gd L (nxt L n).toNat).o.bd)
      · have hl : (gd L n).o.bd < (gd L k).o.bd := by
          rcases hc.2 with q | q
          · omega
          · rw [e0] at q; exact q
        refine .inr ⟨n, by unfold nxt; rw [if_pos hc], by omega, hc.1, fun i hi hf => ?_⟩
        by_cases e : i = n
        · subst e; exact .inr ⟨rfl, Nat.le_refl _⟩
        · have := h4 i (by omega) hf
          omega
      · refine .inr ⟨k, by unfold nxt; rw [if_neg hc]; exact h1, by omega, h3, fun i hi hf => ?_⟩
        by_cases e : i = n
        · subst e
          have : ¬ (gd L i).o.bd < (gd L k).o.bd := fun q => hc ⟨hf, .inr (by rw [e0]; exact q)⟩
          omega
        · exact h4 i (by omega) hf
theorem nxt_neg (L : List OD) (n : Nat) : -1 ≤ nxt L n ∧ nxt L n < n := by
  rcases nxt_said L n with ⟨h1, _⟩ | ⟨k, h1, h2, _⟩ <;> omega
/-- The boxes that are not taken. -/
def left (L : List OD) : List OB := (L.filter fun x => !x.dn).map OD.o
theorem left_mem {L : List OD} {o : OB} : o ∈ left L ↔ ∃ x ∈ L, x.dn = false ∧ x.o = o := by
  unfold left
  simp only [List.mem_map, List.mem_filter, Bool.not_eq_true']
  constructor
  · rintro ⟨x, ⟨h1, h2⟩, h3⟩; exact ⟨x, h1, h2, h3⟩
  · rintro ⟨x, h1, h2, h3⟩; exact ⟨x, ⟨h1, h2⟩, h3⟩
theorem left_snoc (L : List OD) (o : OB) : (left (L ++ [⟨o, false⟩])).Perm (o :: left L) := by
  unfold left
  rw [List.filter_append, List.map_append]
  simp only [List.filter_cons, List.filter_nil, Bool.not_false, if_true, List.map_cons, List.map_nil]
  exact List.perm_append_comm
theorem left_set : ∀ (L : List OD) (k : Nat), k < L.length → (gd L k).dn = false → (left L).Perm ((gd L k).o :: left (L.set k ⟨(gd L k).o, true⟩))
  | [], k, h, _ => absurd h (Nat.not_lt_zero _)
  | x :: L, 0, _, hd => by
    have hx : gd (x :: L) 0 = x := rfl
    rw [hx] at hd ⊢
    unfold left
    simp [hd]
  | x :: L, k + 1, h, hd => by
    have hx : gd (x :: L) (k + 1) = gd L k := rfl
    rw [hx] at hd ⊢
    have ih := left_set L k (by simpa using h) hd
    rw [List.set_cons_succ]
    unfold left at *
    cases hb : x.dn with
    | true => simpa [hb] using ih
    | false =>
      simp only [List.filter_cons, hb, Bool.not_false, if_true, List.map_cons]
      exact (List.Perm.cons _ ih).trans (List.Perm.swap ..)
/-- The list and the heap hold the same. -/
structure Rel (L : List OD) (s : St) : Prop where
  nr : ∀ i, i < L.length → (gd L i).o.nr = i
  nx : s.nx = L.length
  op : (left L).Perm s.op
theorem rel_none {L : List OD} {s : St} (r : Rel L s) (h : nxt L L.length < 0) : s.op.length = 0 := by
  rcases nxt_said L L.length with ⟨_, h2⟩ | ⟨k, h1, _⟩
  · rw [← r.op.length_eq]
    have : left L = [] := by
      apply List.eq_nil_iff_forall_not_mem.2
      intro o ho
      obtain ⟨x, hx, hd, _⟩ := left_mem.1 ho
      obtain ⟨i, hi, e⟩ := gd_of hx
      have := h2 i hi
      rw [e, hd] at this; cases this
    rw [this]; rfl
  · omega
theorem rel_some {L : List OD} {s : St} (r : Rel L s) (hp : Heap s.op s.op.length) {k : Nat} (h : nxt L L.length = k) : 0 < s.op.length ∧ k < L.length ∧ (gd L k).dn = false ∧ (gd L k).o = g s.op 0 := by
  rcases nxt_said L L.length with ⟨h1, _⟩ | ⟨k', h1, h2, h3, h4⟩
  · omega
  · obtain rfl : k' = k := by omega
    have hm : (gd L k').o ∈ s.op := r.op.mem_iff.1 (left_mem.2 ⟨_, gd_mem h2, h3, rfl⟩)
    have h0 : 0 < s.op.length := List.length_pos_of_mem hm
    refine ⟨h0, h2, h3, ?_⟩
    obtain ⟨x, hx, hd, he⟩ := left_mem.1 (r.op.mem_iff.2 (g_mem h0))
    obtain ⟨i, hi, e⟩ := gd_of hx
    subst e
    have a := h4 i hi hd
    obtain ⟨j, hj, ej⟩ : ∃ j, j < s.op.length ∧ g s.op j = (gd L k').o := by
      obtain ⟨j, hj⟩ := List.getElem?_of_mem hm
      exact ⟨j, (List.getElem?_eq_some_iff.1 hj).1, by unfold g; rw [List.getD_eq_getElem?_getD, hj]; rfl⟩
    have b := heap_least hp j hj
    rw [ej, ← he, ← Bool.not_eq_true, ltb_def, r.nr i hi, r.nr k' h2] at b
    have : i = k' := by omega
    subst this
    exact he
theorem rel_take {L : List OD} {s s' : St} (r : Rel L s) (hp : Heap s.op s.op.length) {k : Nat} (h : nxt L L.length = k) (h1 : s'.op = pop s.op) (h2 : s'.nx = s.nx) : Rel (L.set k ⟨(gd L k).o, true⟩) s' := by
  obtain ⟨p0, p1, p2, p3⟩ := rel_some r hp h
  refine ⟨fun i hi => ?_, by rw [h2, r.nx, List.length_set], ?_⟩
  · rw [List.length_set] at hi
    rw [gd_set p1]
    split
    · rename_i e; subst e; exact r.nr i hi
    · exact r.nr i hi
  · have a := (left_set L k p1 p2).symm.trans (r.op.trans (pop_perm p0))
    rw [p3] at a
    rw [h1, p3]
    exact List.Perm.cons_inv a
theorem rel_add {L : List OD} {C : Ask} {s : St} (r : Rel L s) (B : Bx) : Rel (L ++ [⟨⟨B.a, B.b, B.c, B.d, B.e, B.f, C.F B, L.length⟩, false⟩]) (add C s B) := by
  refine ⟨fun i hi => ?_, by show s.nx + 1 = _; rw [r.nx]; simp, ?_⟩
  · rw [List.length_append] at hi
    by_cases e : i < L.length
    · rw [gd_left e]; exact r.nr i e
    · obtain rfl : i = L.length := by simp at hi; omega
      rw [gd_last]
  · have e : (⟨B.a, B.b, B.c, B.d, B.e, B.f, C.F B, L.length⟩ : OB) = ⟨B.a, B.b, B.c, B.d, B.e, B.f, C.F B, s.nx⟩ := by rw [r.nx]
    rw [e]
    exact ((left_snoc L _).trans (List.Perm.cons _ r.op)).trans (push_perm s.op _).symm
theorem rel_start {C : Ask} {R : Bx} : Rel [⟨⟨R.a, R.b, R.c, R.d, R.e, R.f, C.F R, 0⟩, false⟩] (add C start R) := by
  have := rel_add (L := []) (C := C) (s := start) ⟨fun i h => absurd h (Nat.not_lt_zero _), rfl, List.Perm.refl _⟩ R
  exact this
/-- The result over the list. -/
def lowR (m : Int) (L : List OD) : Int := L.foldl (fun l x => if x.dn = false ∧ x.o.bd < m then min l x.o.bd else l) m
def areaR (m : Int) (A : Bx) (L : List OD) : Bx := L.foldl (fun A x => if x.dn = false ∧ x.o.bd < m then hull A x.o.bx else A) A
theorem lowR_snoc (m : Int) (L : List OD) (x : OD) : lowR m (L ++ [x]) = if x.dn = false ∧ x.o.bd < m then min (lowR m L) x.o.bd else lowR m L := by simp [lowR, List.foldl_append]
theorem areaR_snoc (m : Int) (A : Bx) (L : List OD) (x : OD) : areaR m A (L ++ [x]) = if x.dn = false ∧ x.o.bd < m then hull (areaR m A L) x.o.bx else areaR m A L := by simp [areaR, List.foldl_append]
theorem taked_g {L : List OD} {k : Nat} (h : k < L.length) : L.take (k + 1) = L.take k ++ [gd L k] := by
  unfold gd; rw [List.take_succ_eq_append_getElem h, List.getD_eq_getElem?_getD, List.getElem?_eq_getElem h]; rfl
theorem low_left (m : Int) : ∀ (L : List OD) (l : Int), l ≤ m → L.foldl (fun l x => if x.dn = false ∧ x.o.bd < m then min l x.o.bd else l) l = (left L).foldl (fun l o => min l o.bd) l
  | [], l, _ => rfl
  | x :: L, l, h => by
    simp only [List.foldl_cons]
    unfold left
    cases hb : x.dn with
    | true =>
      simp only [List.filter_cons, hb, Bool.not_true, Bool.false_eq_true, if_false, false_and, Bool.true_eq_false]
      exact low_left m L l h
    | false =>
      simp only [List.filter_cons, hb, Bool.not_false, if_true, List.map_cons, List.foldl_cons, true_and]
      split
      · exact low_left m L _ (by omega)
      · rw [show min l x.o.bd = l by omega]; exact low_left m L l h
theorem area_left (m : Int) : ∀ (L : List OD) (A : Bx), areaR m A L = areaF m A (left L)
  | [], A => rfl
  | x :: L, A => by
    unfold left
    cases hb : x.dn with
    | true =>
      simp only [List.filter_cons, hb, Bool.not_true, Bool.false_eq_true, if_false]
      have : areaR m A (x :: L) = areaR m A L := by simp [areaR, hb]
      rw [this]; exact area_left m L A
    | false =>
      simp only [List.filter_cons, hb, Bool.not_false, if_true, List.map_cons]
      have e1 : areaR m A (x :: L) = areaR m (if x.o.bd < m then hull A x.o.bx else A) L := by simp [areaR, hb]
      have e2 : ∀ M, areaF m A (x.o :: M) = areaF m (if x.o.bd < m then hull A x.o.bx else A) M := fun M => rfl
      rw [e1, e2]; exact area_left m L _
theorem foldl_perm {α β : Type} (f : β → α → β) (hf : ∀ b x y, f (f b x) y = f (f b y) x) {L M : List α} (h : L.Perm M) : ∀ b, L.foldl f b = M.foldl f b := by
  induction h with
  | nil => intro b; rfl
  | cons x _ ih => intro b; exact ih _
  | swap x y l => intro b; simp only [List.foldl_cons]; rw [hf]
  | trans _ _ h1 h2 => intro b; exact (h1 b).trans (h2 b)
theorem hull_swap (A B C : Bx) : hull (hull A B) C = hull (hull A C) B := by
  unfold hull
  simp only [Bx.mk.injEq]
  refine ⟨by omega, by omega, by omega, by omega, by omega, by omega⟩
theorem low_rel {L : List OD} {s : St} (r : Rel L s) : lowR s.m L = lowF s.m s.op := by
  unfold lowR
  rw [low_left s.m L s.m (Int.le_refl _)]
  exact foldl_perm _ (fun b x y => by omega) r.op s.m
theorem area_rel {L : List OD} {s : St} (r : Rel L s) (A : Bx) : areaR s.m A L = areaF s.m A s.op := by
  rw [area_left]
  refine foldl_perm _ (fun b x y => ?_) r.op A
  by_cases h1 : x.bd < s.m <;> by_cases h2 : y.bd < s.m <;> simp [h1, h2]
  exact hull_swap _ _ _
theorem run_end {C : Ask} {tol : Int} {k : Nat} {s : St} (h : ended tol s = true) : run C tol k s = s := by
  cases k with
  | zero => rfl
  | succ k => unfold run; rw [if_pos h]
theorem run_step {C : Ask} {tol : Int} {k : Nat} {s : St} (h : ended tol s = false) : run C tol (k + 1) s = run C tol k (take C s) := by
  conv => lhs; unfold run
  rw [if_neg (by simp [h])]
end Loc
end Go.Proofs.Ytldgihlhioeipaa

/- The reference's search: one step of it. -/
set_option linter.unusedVariables false
namespace Go.Proofs.Ytldgihlhioeipaa
namespace Loc
theorem ended_none {L : List OD} {s : St} (r : Rel L s) (tol : Int) (h : nxt L L.length < 0) : ended tol s = true := by
  unfold ended; rw [rel_none r h]; rfl
theorem ended_some {L : List OD} {s : St} (r : Rel L s) (hp : Heap s.op s.op.length) (tol : Int) {k : Nat} (h : nxt L L.length = k) : ended tol s = (s.fd && decide (s.m - (gd L k).o.bd ≤ tol)) := by
  obtain ⟨h0, _, _, e⟩ := rel_some r hp h
  unfold ended; rw [e, decide_eq_false (by omega), Bool.false_or]
/-- A box that has one point. -/
theorem step_one {C : Ask} {L : List OD} {s : St} (r : Rel L s) (hp : Heap s.op s.op.length) {k : Nat} (h : nxt L L.length = k) (h1 : one (gd L k).o.bx = true) : take C s = consider C (first s) (cen (gd L k).o.bx) ∧ Rel (L.set k ⟨(gd L k).o, true⟩) (take C s) := by
  obtain ⟨_, _, _, e⟩ := rel_some r hp h
  have et : take C s = consider C (first s) (cen (gd L k).o.bx) := by unfold take; rw [← e, if_pos h1]
  obtain ⟨o1, o2, _, _⟩ := consider_op C (first s) (cen (gd L k).o.bx)
  exact ⟨et, by rw [et]; exact rel_take r hp h o1 o2⟩
/-- A box that is split. -/
theorem step_two {C : Ask} {L : List OD} {s : St} (r : Rel L s) (hp : Heap s.op s.op.length) {k : Nat} (h : nxt L L.length = k) (h1 : one (gd L k).o.bx = false) {B B1 B2 : Bx} (hB : B = (gd L k).o.bx) (e1 : B1 = (C.S B).1) (e2 : B2 = (C.S B).2) :
    (take C s).x = (consider C (first s) (cen B)).x ∧ (take C s).y = (consider C (first s) (cen B)).y ∧ (take C s).z = (consider C (first s) (cen B)).z ∧ (take C s).t = (consider C (first s) (cen B)).t ∧ (take C s).m = (consider C (first s) (cen B)).m ∧ Rel (L.set k ⟨(gd L k).o, true⟩ ++ [⟨⟨B1.a, B1.b, B1.c, B1.d, B1.e, B1.f, C.F B1, L.length⟩, false⟩, ⟨⟨B2.a, B2.b, B2.c, B2.d, B2.e, B2.f, C.F B2, (L.length : Int) + 1⟩, false⟩]) (take C s) := by
  obtain ⟨_, _, _, e⟩ := rel_some r hp h
  have et : take C s = add C (add C (consider C (first s) (cen B)) B1) B2 := by unfold take; rw [← e, if_neg (by simp [h1]), ← hB, ← e1, ← e2]
  obtain ⟨o1, o2, _, _⟩ := consider_op C (first s) (cen B)
  rw [et]
  refine ⟨rfl, rfl, rfl, rfl, rfl, ?_⟩
  have r1 := rel_take (s' := consider C (first s) (cen B)) r hp h o1 o2
  have r2 := rel_add (C := C) (rel_add (C := C) r1 B1) B2
  rw [List.append_assoc] at r2
  simpa using r2
/-- The length of the list. -/
theorem rel_len {C : Ask} {R : Bx} {L : List OD} {s : St} (r : Rel L s) (i : Inv C R s) : (L.length : Int) ≤ 2 * s.tk + 1 := by rw [← r.nx]; exact i.nx9
end Loc
end Go.Proofs.Ytldgihlhioeipaa

/- Rows of the reference's open boxes. -/
set_option linter.unusedVariables false
set_option linter.unusedSimpArgs false
namespace Go.Proofs.Ytldgihlhioeipaa
open Go.RowKit
namespace Loc
def rowd (o : OD) : List Value := [.int .i64 o.o.a, .int .i64 o.o.b, .int .i64 o.o.c, .int .i64 o.o.d, .int .i64 o.o.e, .int .i64 o.o.f, .int .i64 o.o.bd, .bool o.dn]
def cellsd (L : List OD) : List Value := L.flatMap rowd
theorem cellsd_cons (L : List OD) (o : OD) : cellsd (o :: L) = rowd o ++ cellsd L := by simp [cellsd]
theorem rowd_len (o : OD) : (rowd o).length = 8 := rfl
theorem cellsd_len (L : List OD) : (cellsd L).length = L.length * 8 := by
  induction L with
  | nil => rfl
  | cons o L ih => rw [cellsd_cons, List.length_append, ih, rowd_len, List.length_cons]; omega
theorem cellsd_get (L : List OD) : ∀ (k : Nat), k < L.length → ∀ j, j < 8 → (cellsd L)[k * 8 + j]? = (rowd (gd L k))[j]? := by
  induction L with
  | nil => intro k h; simp at h
  | cons q L ih =>
    intro k h j hj
    rw [cellsd_cons]
    cases k with
    | zero => rw [Nat.zero_mul, Nat.zero_add, List.getElem?_append_left (by rw [rowd_len]; omega)]; rfl
    | succ k =>
      rw [List.getElem?_append_right (by rw [rowd_len]; omega), rowd_len, show (k + 1) * 8 + j - 8 = k * 8 + j by omega]
      exact ih k (by simpa using h) j hj
/-- The slice v holds the open boxes L. -/
def OwnD (w : World) (B : Nat) (v : Value) (L : List OD) : Prop := w.ownsRow B 87 8 v L.length (cellsd L)
theorem OwnD.cell {w : World} {B b n c : Nat} {L : List OD} (h : OwnD w B (.slice (some ⟨b, 0, none⟩) n c) L) {k : Nat} (hk : k < L.length) (j : Nat) (u : Value) (hu : (rowd (gd L k))[j]? = some u) : w.cell? ⟨b, k * 8 + j, none⟩ = some u := by
  have hj : j < 8 := by have := (List.getElem?_eq_some_iff.1 hu).1; simpa [rowd] using this
  have := World.ownsRow.cells (g := b) h rfl (k * 8 + j) u (by rw [cellsd_get L k hk j hj, hu])
  rwa [Addr.add_lit, Nat.zero_add] at this
theorem OwnD.range {w : World} {B b n c : Nat} {L : List OD} (h : OwnD w B (.slice (some ⟨b, 0, none⟩) n c) L) {k : Nat} (hk : k < L.length) : w.rangeAt b (k * 8) (rowd (gd L k)) := fun j u hu => h.cell hk j u hu
theorem OwnD.addr {w : World} {B : Nat} {ad : Option Addr} {n c : Nat} {L : List OD} (h : OwnD w B (.slice ad n c) L) (h0 : 0 < L.length) : ∃ b : Nat, ad = some ⟨b, 0, none⟩ ∧ n = L.length ∧ B ≤ b ∧ b < w.heap.size := by
  rcases h.2 with ⟨_, e⟩ | ⟨b, c', _, e, hb, hc, _⟩
  · omega
  · injection e with e1 e2 _; exact ⟨b, e1, e2, hb, (Array.getElem?_eq_some_iff.1 hc).1⟩
theorem OwnD.len {w : World} {B : Nat} {ad : Option Addr} {n c : Nat} {L : List OD} (h : OwnD w B (.slice ad n c) L) : n = L.length := by
  rcases h.2 with ⟨e1, e⟩ | ⟨b, c', _, e, hb, hc, _⟩
  · injection e1 with _ e2 _; omega
  · injection e with e1 e2 _
theorem OwnD.below {w w' : World} {B : Nat} {v : Value} {L : List OD} (h : OwnD w B v L) (hb : Below w.heap.size w w') : OwnD w' B v L := Mis.own_below h hb
theorem OwnD.same {w w' : World} {B : Nat} {v : Value} {L : List OD} (h : OwnD w B v L) (hb : ∀ k, v.ownBlock = some k → w'.heap[k]? = w.heap[k]?) : OwnD w' B v L := Mis.own_kept h hb
theorem OwnD.there {w : World} {B b n c : Nat} {L : List OD} (h : OwnD w B (.slice (some ⟨b, 0, none⟩) n c) L) {k : Nat} (hk : k < L.length) : w.there b (k * 8) 8 := by
  rcases h.2 with ⟨e1, e⟩ | ⟨b', c', cur, e, hb, hc, hn, hm, hs, ht⟩
  · omega
  · injection e with e1 _ _
    obtain rfl : b = b' := by injection e1 with e1; injection e1
    refine Mid.there hc _ _ ?_
    rw [hs]
    have : (k + 1) * 8 ≤ c' * 8 := Nat.mul_le_mul_right 8 (by omega)
    omega
theorem OwnD.set {w : World} {B b n c : Nat} {L : List OD} (h : OwnD w B (.slice (some ⟨b, 0, none⟩) n c) L) {k : Nat} (hk : k < L.length) (x : OD) : OwnD (w.setCells b (k * 8) (rowd x)) B (.slice (some ⟨b, 0, none⟩) n c) (L.set k x) := by
  refine ⟨by rw [cellsd_len, List.length_set], ?_⟩
  rcases h.2 with ⟨e1, e⟩ | ⟨b', c', cur, e, hb, hc, hn, hm, hs, ht⟩
  · omega
  · injection e with e1 e2 e3
    obtain rfl : b = b' := by injection e1 with e1; injection e1
    have kk : (k + 1) * 8 ≤ c' * 8 := Nat.mul_le_mul_right 8 (by omega)
    have kl : (k + 1) * 8 ≤ L.length * 8 := Nat.mul_le_mul_right 8 (by omega)
    refine .inr ⟨b, c', Mid.setMany cur (k * 8) (rowd x), by rw [e2, e3, List.length_set], hb, Mid.heap_set _ _ _ _ _ _ hc, by rw [List.length_set]; exact hn, hm, by rw [setMany_size]; exact hs, ?_⟩
    apply List.ext_getElem?
    intro p
    rw [List.length_set, List.getElem?_take]
    by_cases hp : p < L.length * 8
    · rw [if_pos hp, Array.getElem?_toList, setMany_get _ _ _ _ (by rw [rowd_len, hs]; omega), rowd_len]
      have hp8 : p / 8 < L.length := by omega
      have e4 : p = p / 8 * 8 + p % 8 := by omega
      have G := cellsd_get (L.set k x) (p / 8) (by rw [List.length_set]; exact hp8) (p % 8) (by omega)
      rw [← e4] at G
      rw [G]
      by_cases hkp : p / 8 = k
      · rw [if_pos (by omega), show p - k * 8 = p % 8 by omega, hkp]
        have : gd (L.set k x) k = x := by unfold gd; rw [List.getD_eq_getElem?_getD, List.getElem?_set_self (by omega)]; rfl
        rw [this]
      · rw [if_neg (by omega)]
        have : gd (L.set k x) (p / 8) = gd L (p / 8) := by unfold gd; rw [List.getD_eq_getElem?_getD, List.getElem?_set_ne (by omega), List.getD_eq_getElem?_getD]
        rw [this, ← cellsd_get L (p / 8) hp8 (p % 8) (by omega), ← e4, ← ht, List.getElem?_take, if_pos hp, Array.getElem?_toList]
    · rw [if_neg hp]
      exact (List.getElem?_eq_none (by rw [cellsd_len, List.length_set]; omega)).symm
theorem OwnD.block {w : World} {B : Nat} {v : Value} {L : List OD} (h : OwnD w B v L) {b : Nat} {cs : Array Value} {t : TypeId} {fr : Nat × Nat} (hb : w.heap[b]? = some (.cells cs t fr)) (ht : t ≠ 87) : v.ownBlock ≠ some b := by
  intro he
  rcases h.2 with ⟨rfl, _⟩ | ⟨g, c, cur, rfl, _, hc, _⟩
  · simp [Value.ownBlock] at he
  · simp [Value.ownBlock] at he
    subst he
    rw [hc] at hb
    simp at hb
    exact ht hb.2.1.symm
end Loc
end Go.Proofs.Ytldgihlhioeipaa

/- The reference's search: next. -/
set_option linter.unusedVariables false
set_option linter.unusedSimpArgs false
namespace Go.Proofs.Ytldgihlhioeipaa
open Go.RowKit
namespace Loc
theorem nxt_skip {L : List OD} {k : Nat} (h : (gd L k).dn = true) : nxt L (k + 1) = nxt L k := by
  conv => lhs; unfold nxt
  rw [if_neg (by simp [h])]
theorem nxt_less {L : List OD} {k : Nat} (h : (gd L k).dn = false) (h2 : nxt L k < 0 ∨ (gd L k).o.bd < (gd L (nxt L k).toNat).o.bd) : nxt L (k + 1) = k := by
  conv => lhs; unfold nxt
  rw [if_pos ⟨h, h2⟩]
theorem nxt_more {L : List OD} {k : Nat} (h1 : ¬ nxt L k < 0) (h2 : ¬ (gd L k).o.bd < (gd L (nxt L k).toNat).o.bd) : nxt L (k + 1) = nxt L k := by
  conv => lhs; unfold nxt
  rw [if_neg (fun q => by rcases q.2 with q | q; exact h1 q; exact h2 q)]
set_option maxHeartbeats 8000000 in
set_option maxRecDepth 100000 in
theorem next_any {w : World} {B : Nat} {ad : Option Addr} {n c : Nat} {L : List OD} (h : OwnD w B (.slice ad n c) L) (hn : L.length ≤ 1000000) :
    Calls Try.prog 41 #[.slice ad n c] w fun e w' => e = .returned (.int .i64 (nxt L L.length)) ∧ Below w.heap.size w w' := by
  have hl := h.len
  rw [← hl] at hn ⊢
  have H := Lib.hid h
  replace hl := Lib.hid hl
  clear h
  go_enter Try.func41, Try.ntmps41
  go_wp2_with fail
  go_loopw [3, 4] (fun u i wr => ∃ k : Nat, k ≤ n ∧ i = .int .i64 k ∧ u = .int .i64 (nxt L k) ∧ Hid (Below w.heap.size w wr)) (fun _ i _ => n - (intOf i).toNat)
  case atStart => exact ⟨0, Nat.zero_le _, rfl, rfl, Lib.hid (Below.refl _ _)⟩
  case round =>
    obtain ⟨k, hk, rfl, rfl, hbr⟩ := hrel
    by_cases hlt : k < n
    · have hlt' : (k : Int) < n := by omega
      have hkl : k < L.length := by rw [← hl.out]; exact hlt
      obtain ⟨b, rfl, hx1, hx2, hx3⟩ := H.out.addr (by omega)
      clear hx1 hx2 hx3
      have HW := H.out.below hbr.out
      have c6 := HW.cell hkl 6 _ rfl
      have c7 := HW.cell hkl 7 _ rfl
      obtain ⟨dn, hdn⟩ : ∃ z, z = (gd L k).dn := ⟨_, rfl⟩
      obtain ⟨bd, hbd⟩ : ∃ z, z = (gd L k).o.bd := ⟨_, rfl⟩
      rw [← hdn] at c7
      rw [← hbd] at c6
      cases dn with
      | true =>
        have e := nxt_skip hdn.symm
        obtain ⟨u, hu⟩ : ∃ z, z = nxt L k := ⟨_, rfl⟩
        rw [← hu] at e ⊢
        replace e := Lib.hid e
        replace hdn := Lib.hid hdn
        replace hbd := Lib.hid hbd
        replace hu := Lib.hid hu
        clear HW hkl
        go_wp2_with fail
        go_quiet (fail)
        go_wp2_with fail
        go_roundw
        case rel => exact ⟨k + 1, by omega, by go_num, by rw [e.out], Lib.hid (Buf.then_ hbr.out (Buf.below_drewN (Below.refl _ _) _))⟩
        case measure => simp [intOf]; omega
      | false =>
        by_cases h0 : nxt L k < 0
        · have e := nxt_less hdn.symm (.inl h0)
          obtain ⟨u, hu⟩ : ∃ z, z = nxt L k := ⟨_, rfl⟩
          rw [← hu] at h0 ⊢
          have d0 : decide (u < 0) = true := decide_eq_true h0
          replace e := Lib.hid e
          replace hdn := Lib.hid hdn
          replace hbd := Lib.hid hbd
          replace hu := Lib.hid hu
          clear HW hkl
          go_wp2_with fail
          go_quiet (fail)
          go_wp2_with fail
          go_roundw
          case rel => exact ⟨k + 1, by omega, by go_num, by rw [e.out], Lib.hid (Buf.then_ hbr.out (Buf.below_drewN (Below.refl _ _) _))⟩
          case measure => simp [intOf]; omega
        · obtain ⟨j, hj⟩ : ∃ j : Nat, nxt L k = (j : Int) := ⟨(nxt L k).toNat, by omega⟩
          have hjk := (nxt_neg L k).2
          have hjl : j < L.length := by omega
          have c6' := HW.cell hjl 6 _ rfl
          obtain ⟨bj, hbj⟩ : ∃ z, z = (gd L j).o.bd := ⟨_, rfl⟩
          rw [← hbj] at c6'
          have hj' : (j : Int) < n := by have := hl.out; omega
          have d0 : decide ((j : Int) < 0) = false := decide_eq_false (by omega)
          have ej : (nxt L k).toNat = j := by omega
          by_cases h2 : bd < bj
          · have e := nxt_less hdn.symm (.inr (by rw [ej, ← hbj, ← hbd]; exact h2))
            have d1 : decide (bd < bj) = true := decide_eq_true h2
            rw [hj]
            replace e := Lib.hid e
            replace hdn := Lib.hid hdn
            replace hbd := Lib.hid hbd
            replace hbj := Lib.hid hbj
            replace hj := Lib.hid hj
            clear HW hkl hjl ej hjk h0
            go_wp2_with fail
            go_quiet (fail)
            go_wp2_with fail
            go_roundw
            case rel => exact ⟨k + 1, by omega, by go_num, by rw [e.out], Lib.hid (Buf.then_ hbr.out (Buf.below_drewN (Below.refl _ _) _))⟩
            case measure => simp [intOf]; omega
          · have e := nxt_more h0 (by rw [ej, ← hbj, ← hbd]; exact h2)
            have d1 : decide (bd < bj) = false := decide_eq_false h2
            rw [hj] at e ⊢
            replace e := Lib.hid e
            replace hdn := Lib.hid hdn
            replace hbd := Lib.hid hbd
            replace hbj := Lib.hid hbj
            replace hj := Lib.hid hj
            clear HW hkl hjl ej hjk h0
            go_wp2_with fail
            go_quiet (fail)
            go_wp2_with fail
            go_roundw
            case rel => exact ⟨k + 1, by omega, by go_num, by rw [e.out], Lib.hid (Buf.then_ hbr.out (Buf.below_drewN (Below.refl _ _) _))⟩
            case measure => simp [intOf]; omega
    · obtain rfl : n = k := by omega
      obtain ⟨u, hu⟩ : ∃ z, z = nxt L n := ⟨_, rfl⟩
      rw [← hu]
      go_wp2_with fail
      go_ret
      exact ⟨by rw [hu]; rfl, hbr.out⟩
end Loc
end Go.Proofs.Ytldgihlhioeipaa

/- The reference as a search asks it: Bound, Split; what both searches ask. -/
set_option linter.unusedVariables false
set_option linter.unusedSimpArgs false
namespace Go.Proofs.Ytldgihlhioeipaa
open Go.RowKit Qt
namespace Mis
set_option maxHeartbeats 8000000 in
set_option maxRecDepth 100000 in
theorem rbound_any {w : World} {a b c d e f s : Int} {b1 b2 n g nl cc : Nat} {lo hi : List Int} {L : List Ph} {cap : Int} (R : Rg a b c d e f) (W : Bound.Wide w s b1 b2 n lo hi) (hL : PhAllS L) (n1 : 1 ≤ L.length) (n9 : L.length ≤ 64) (c0 : 1 ≤ cap) (c9 : cap ≤ 2000) (hp : PhR w g L) (hn : nl = L.length) (hc : nl ≤ cc) (c1 c2 : Nat) (p1 p2 p3 q1 q2 q3 : Int) (S : Sub a b c d e f p1 p2 p3 q1 q2 q3) :
    Calls Try.prog 40 #[.agg #[.int .i64 a, .int .i64 b, .int .i64 c, .int .i64 d, .int .i64 e, .int .i64 f, .int .i64 s, .slice (some ⟨b1, 0, none⟩) n c1, .slice (some ⟨b2, 0, none⟩) n c2, .slice (some ⟨g, 0, none⟩) nl cc, .int .i64 cap], .agg #[.int .i64 p1, .int .i64 p2, .int .i64 p3, .int .i64 q1, .int .i64 q2, .int .i64 q3]] w fun r w' => r = .returned (.tuple #[.int .i64 (mf s lo hi cap p1 p2 p3 q1 q2 q3 L).2, .int .i64 0]) ∧ Below w.heap.size w w' := by
  have nl1 : 0 < nl := by omega
  have Hn := Lib.hid hn
  have CS := Lib.hid (cs_of R S W hL n1 n9 c0 c9)
  obtain ⟨W0, hW0⟩ : ∃ wz, wz = (w.alloc (.cells #[.int .i64 a, .int .i64 b, .int .i64 c, .int .i64 d, .int .i64 e, .int .i64 f, .int .i64 s, .slice (some ⟨b1, 0, none⟩) n c1, .slice (some ⟨b2, 0, none⟩) n c2, .slice (some ⟨g, 0, none⟩) nl cc, .int .i64 cap] 36)).alloc (.cells #[.int .i64 p1, .int .i64 p2, .int .i64 p3, .int .i64 q1, .int .i64 q2, .int .i64 q3] 26) := ⟨_, rfl⟩
  have B0 : Below w.heap.size w W0 := by rw [hW0]; exact Buf.then_ (new_block _) (new_block _)
  have k1 := Lib.hid (show W0.heap[w.heap.size]? = some (.cells #[.int .i64 a, .int .i64 b, .int .i64 c, .int .i64 d, .int .i64 e, .int .i64 f, .int .i64 s, .slice (some ⟨b1, 0, none⟩) n c1, .slice (some ⟨b2, 0, none⟩) n c2, .slice (some ⟨g, 0, none⟩) nl cc, .int .i64 cap] 36 (0, 0)) by rw [hW0]; exact Geo.blk_alloc (Geo.blk_new w _) _)
  have k2 := Lib.hid (show W0.heap[w.heap.size + 1]? = some (.cells #[.int .i64 p1, .int .i64 p2, .int .i64 p3, .int .i64 q1, .int .i64 q2, .int .i64 q3] 26 (0, 0)) by rw [hW0]; exact Geo.blk_new1 w _ _)
  obtain ⟨w0s, hw0s⟩ : ∃ z, z = w.heap.size := ⟨_, rfl⟩
  obtain ⟨w1s, hw1s⟩ : ∃ z, z = w.heap.size + 1 := ⟨_, rfl⟩
  have HP := Lib.hid (hp.below B0)
  have hW := Lib.hid B0
  have ZO := Lib.hid fun (w' : World) (h' : Below W0.heap.size W0 w') => rzones_any (w := w') R (W.below (Buf.then_ B0 h')) hL n1 n9 c0 c9 (hp.below (Buf.then_ B0 h')) hn hc c1 c2 p1 p2 p3 q1 q2 q3 S
  have ME := Lib.hid (show mf s lo hi cap p1 p2 p3 q1 q2 q3 L = best cap (wt L) (zn (L.map (zfun s lo hi p1 p2 p3 q1 q2 q3))) nl by rw [hn]; rfl)
  have ZN := Lib.hid (show (L.map (zfun s lo hi p1 p2 p3 q1 q2 q3)).length = nl by rw [List.length_map]; exact hn.symm)
  rw [ME.out]
  clear ME
  generalize L.map (zfun s lo hi p1 p2 p3 q1 q2 q3) = ZL at *
  clear W hp hn B0 hL R n1 n9 S
  go_enter Try.func40, Try.ntmps40
  go_upto_region 1 with fail
  rw [← hW0, ← hw1s, ← hw0s]
  rw [← hw1s] at k2
  rw [← hw0s] at k1
  clear hw1s hw0s hW0
  go_upto_region 2 with (first | ((with_reducible refine Mid.ldr 36 (.tmp 2) w0s 36 #[.int .i64 a, .int .i64 b, .int .i64 c, .int .i64 d, .int .i64 e, .int .i64 f, .int .i64 s, .slice (some ⟨b1, 0, none⟩) n c1, .slice (some ⟨b2, 0, none⟩) n c2, .slice (some ⟨g, 0, none⟩) nl cc, .int .i64 cap] k1.out ?_ ?_ ?_ ?_ ?_ ?_); (· rfl); (· rfl); (· first | rfl | simp [Act.eval]); (· exact ⟨_, rfl, rfl⟩); (· kernel_rfl)) | ((with_reducible refine Mid.ldr 26 (.tmp 3) w1s 26 #[.int .i64 p1, .int .i64 p2, .int .i64 p3, .int .i64 q1, .int .i64 q2, .int .i64 q3] k2.out ?_ ?_ ?_ ?_ ?_ ?_); (· rfl); (· rfl); (· first | rfl | simp [Act.eval]); (· exact ⟨_, rfl, rfl⟩); (· kernel_rfl)) | (go_at_call 46; refine (ZO.out _ (Below.refl _ _)).mono ?_; rintro e_ w2 ⟨⟨v_, rfl, oz_⟩, hb_⟩; obtain ⟨gz, cz, rfl, z1, z2, z3, z4⟩ := znR_of_own oz_ (by rw [ZN.out]; exact nl1); rw [ZN.out] at z2 ⊢; have ZR := Lib.hid z1; have HB := Lib.hid hb_; clear z1 z4 oz_ hb_))
  have BE := Lib.hid fun (w' : World) (hp : PhR w' g L) (hz : ZnR w' gz ZL) => rbest_any (w := w') a b c d e f s (some ⟨b1, 0, none⟩) (some ⟨b2, 0, none⟩) n n c1 c2 cap CS.out hp hz (by rw [← Hn.out]; exact hc) (by rw [← Hn.out]; exact z2) z3 nl Hn.out
  have K3 := Lib.hid (hb HB.out k1.out)
  clear z2 z3 ZO CS k2
  go_upto_region 5 with (first | ((with_reducible refine Mid.ldr 36 (.tmp 2) w0s 36 #[.int .i64 a, .int .i64 b, .int .i64 c, .int .i64 d, .int .i64 e, .int .i64 f, .int .i64 s, .slice (some ⟨b1, 0, none⟩) n c1, .slice (some ⟨b2, 0, none⟩) n c2, .slice (some ⟨g, 0, none⟩) nl cc, .int .i64 cap] K3.out ?_ ?_ ?_ ?_ ?_ ?_); (· rfl); (· rfl); (· first | rfl | simp [Act.eval]); (· exact ⟨_, rfl, rfl⟩); (· kernel_rfl)) | (go_at_call 48; with_reducible refine (BE.out _ (HP.out.below HB.out) ZR.out).mono ?_; rintro r w6 ⟨rfl, b6⟩))
  go_wp2_with fail
  go_ret2
  exact ⟨rfl, Buf.then_ hW.out (Buf.then_ HB.out b6)⟩
end Mis
namespace Geo
set_option maxRecDepth 100000 in
theorem split_both (a b c d e f : Int) (h : BV a b c d e f) (h2 : 2 ≤ pts a b c d e f) : ∃ x1 x2 x3 x4 x5 x6 y1 y2 y3 y4 y5 y6 : Int, (∀ w, Calls Try.prog 31 #[.agg #[.int .i64 a, .int .i64 b, .int .i64 c, .int .i64 d, .int .i64 e, .int .i64 f]] w fun r w' => r = .returned (.tuple #[.agg #[.int .i64 x1, .int .i64 x2, .int .i64 x3, .int .i64 x4, .int .i64 x5, .int .i64 x6], .agg #[.int .i64 y1, .int .i64 y2, .int .i64 y3, .int .i64 y4, .int .i64 y5, .int .i64 y6], .bool true]) ∧ Below w.heap.size w w') ∧ (∀ w, Calls Try.prog 44 #[.agg #[.int .i64 a, .int .i64 b, .int .i64 c, .int .i64 d, .int .i64 e, .int .i64 f]] w fun r w' => r = .returned (.tuple #[.agg #[.int .i64 x1, .int .i64 x2, .int .i64 x3, .int .i64 x4, .int .i64 x5, .int .i64 x6], .agg #[.int .i64 y1, .int .i64 y2, .int .i64 y3, .int .i64 y4, .int .i64 y5, .int .i64 y6], .bool true]) ∧ Below w.heap.size w w') ∧ Halves a b c d e f x1 x2 x3 x4 x5 x6 y1 y2 y3 y4 y5 y6 := by
  have hne : ¬ (a = d ∧ b = e ∧ c = f) := by rintro ⟨rfl, rfl, rfl⟩; rw [pts_self] at h2; omega
  have hB := bvB_of h
  have hx := h.x
  have hy := h.y
  have hz := h.z
  by_cases k1 : e - b ≤ d - a
  · by_cases k2 : f - c ≤ d - a
    · exact ⟨_, _, _, _, _, _, _, _, _, _, _, _, split_A a b c d e f h h2 k1 k2, rsplit_A a b c d e f hB h2 k1 k2, halves_0 h (by omega)⟩
    · exact ⟨_, _, _, _, _, _, _, _, _, _, _, _, split_B a b c d e f h h2 k1 (by omega), rsplit_B a b c d e f hB h2 k1 (by omega), halves_2 h (by omega)⟩
  · by_cases k2 : f - c ≤ e - b
    · exact ⟨_, _, _, _, _, _, _, _, _, _, _, _, split_C a b c d e f h h2 (by omega) k2, rsplit_C a b c d e f hB h2 (by omega) k2, halves_1 h (by omega)⟩
    · exact ⟨_, _, _, _, _, _, _, _, _, _, _, _, split_D a b c d e f h h2 (by omega) (by omega), rsplit_D a b c d e f hB h2 (by omega) (by omega), halves_2 h (by omega)⟩
end Geo
namespace Loc
/-- How the reference splits boxes. -/
def SplR (R : Bx) (S : Bx → Bx × Bx) : Prop := ∀ B, Sb R B → one B = false →
  ∀ w, Calls Try.prog 44 #[.agg (box6 B).toArray] w fun e w' => e = .returned (.tuple #[.agg (box6 (S B).1).toArray, .agg (box6 (S B).2).toArray, .bool true]) ∧ Below w.heap.size w w'
theorem spl_both {R : Bx} (hR : Geo.BV R.a R.b R.c R.d R.e R.f) : ∃ S, Spl R S ∧ SplR R S := by
  have H : ∀ B : Bx, ∃ r : Bx × Bx, Sb R B → one B = false →
    ((∀ w, Calls Try.prog 31 #[.agg (box6 B).toArray] w fun e w' => e = .returned (.tuple #[.agg (box6 r.1).toArray, .agg (box6 r.2).toArray, .bool true]) ∧ Below w.heap.size w w') ∧
    (Sb B r.1 ∧ Sb B r.2 ∧ np r.1 + np r.2 = np B ∧ ∀ p, inB B p → inB r.1 p ∨ inB r.2 p)) ∧
    ∀ w, Calls Try.prog 44 #[.agg (box6 B).toArray] w fun e w' => e = .returned (.tuple #[.agg (box6 r.1).toArray, .agg (box6 r.2).toArray, .bool true]) ∧ Below w.heap.size w w' := by
   intro B
   by_cases h : Sb R B ∧ one B = false
   · obtain ⟨h1, h2⟩ := h
     have bv := bv_sub hR h1
     have h3 : 2 ≤ Geo.pts B.a B.b B.c B.d B.e B.f := by
       by_cases h4 : Geo.pts B.a B.b B.c B.d B.e B.f < 2
       · have h5 := Geo.pts_one bv h4
         unfold one at h2
         simp at h2
         exact absurd h5.2.2 (h2 h5.1 h5.2.1)
       · omega
     obtain ⟨x1, x2, x3, x4, x5, x6, y1, y2, y3, y4, y5, y6, hc, hr, hh⟩ := Geo.split_both B.a B.b B.c B.d B.e B.f bv h3
     refine ⟨(⟨x1, x2, x3, x4, x5, x6⟩, ⟨y1, y2, y3, y4, y5, y6⟩), fun _ _ => ⟨⟨hc, ?_, ?_, hh.num, fun p hp => ?_⟩, hr⟩⟩
     · obtain ⟨w1, w2, w3, w4, w5, w6⟩ := hh.wx
       exact ⟨w1, w3, w5, w2, w4, w6, hh.bx.x, hh.bx.y, hh.bx.z⟩
     · obtain ⟨w1, w2, w3, w4, w5, w6⟩ := hh.wy
       exact ⟨w1, w3, w5, w2, w4, w6, hh.bY.x, hh.bY.y, hh.bY.z⟩
     · unfold inB at hp
       have h6 := hh.part p.1 p.2.1 p.2.2 hp.1 hp.2.1 hp.2.2.1 hp.2.2.2.1 hp.2.2.2.2.1 hp.2.2.2.2.2
       rw [Geo.wiB_pt, Geo.wiB_pt] at h6
       unfold inB
       by_cases h7 : x1 ≤ p.1 ∧ p.1 ≤ x4 ∧ x2 ≤ p.2.1 ∧ p.2.1 ≤ x5 ∧ x3 ≤ p.2.2 ∧ p.2.2 ≤ x6
       · exact .inl h7
       · rw [decide_eq_false h7] at h6
         simp only [Bool.false_eq, Bool.not_eq_false', decide_eq_true_eq] at h6
         exact .inr h6
   · exact ⟨(B, B), fun h1 h2 => absurd ⟨h1, h2⟩ h⟩
  obtain ⟨S, hS⟩ := Classical.axiomOfChoice H
  exact ⟨S, fun B h1 h2 => (hS B h1 h2).1, fun B h1 h2 => (hS B h1 h2).2⟩
section
/-- What the reference's search asks of a problem, in all worlds behind A. -/
structure Rr (A : World) (Ak : Ask) (R : Bx) (q : Pq) : Prop where
  bound : ∀ w, Below A.heap.size A w → ∀ B, Sb R B → Calls Try.prog 40 #[.agg (prb R q).toArray, .agg (box6 B).toArray] w fun e w' => e = .returned (.tuple #[.int .i64 (Ak.F B), .int .i64 0]) ∧ Below w.heap.size w w'
  at_ : ∀ w, Below A.heap.size A w → ∀ p, inB R p → Calls Try.prog 26 #[.agg (prb R q).toArray, .agg #[.int .i64 p.1, .int .i64 p.2.1, .int .i64 p.2.2]] w fun e w' => e = .returned (.tuple #[.int .i64 (Ak.G p).1, .int .i64 (Ak.G p).2, .int .i64 0]) ∧ Below w.heap.size w w'
  vl : ∀ w, Below A.heap.size A w → Calls Try.prog 39 #[.agg (prb R q).toArray] w fun e w' => e = .returned (.int .i64 0) ∧ Below w.heap.size w w'
  sp : ∀ B, Sb R B → one B = false → ∀ w, Calls Try.prog 44 #[.agg (box6 B).toArray] w fun e w' => e = .returned (.tuple #[.agg (box6 (Ak.S B).1).toArray, .agg (box6 (Ak.S B).2).toArray, .bool true]) ∧ Below w.heap.size w w'
  good : Good Ak R
  bv : ∀ B, Sb R B → Geo.BV B.a B.b B.c B.d B.e B.f
  f0 : ∀ B, Sb R B → 0 ≤ Ak.F B ∧ Ak.F B ≤ 1125899906842624
  g0 : ∀ p, inB R p → 0 ≤ (Ak.G p).2 ∧ (Ak.G p).2 ≤ 1125899906842624
  few : 2 * np R - 1 ≤ 60000
theorem Rr.below {A w : World} {Ak : Ask} {R : Bx} {q : Pq} (P : Rr A Ak R q) (hb : Below A.heap.size A w) : Rr w Ak R q :=
  ⟨fun w' h' => P.bound w' (Buf.then_ hb h'), fun w' h' => P.at_ w' (Buf.then_ hb h'), fun w' h' => P.vl w' (Buf.then_ hb h'), P.sp, P.good, P.bv, P.f0, P.g0, P.few⟩
variable {w : World} {gp cc nl : Nat} {L : List Mis.Ph} {R : Bx} {s : Int} {b1 b2 n : Nat} {cap : Int} {lo hi : List Int} {S : Bx → Bx × Bx}
theorem rr_of (hR : Mis.Rg R.a R.b R.c R.d R.e R.f) (W : Bound.Wide w s b1 b2 n lo hi) (hL : Mis.PhAllS L) (n1 : 1 ≤ L.length) (n9 : L.length ≤ 64) (c0 : 1 ≤ cap) (c9 : cap ≤ 2000) (hp : Mis.PhR w gp L) (hn : nl = L.length) (hc : nl ≤ cc) (c1 c2 : Nat) (P : Pr w ⟨Fm s lo hi cap L, Gm s lo hi cap L, S⟩ R ⟨s, b1, n, c1, b2, n, c2, gp, nl, cc, cap⟩) (hS : SplR R S) :
    Rr w ⟨Fm s lo hi cap L, Gm s lo hi cap L, S⟩ R ⟨s, b1, n, c1, b2, n, c2, gp, nl, cc, cap⟩ where
  bound w' h' B hB := Mis.rbound_any hR (W.below h') hL n1 n9 c0 c9 (hp.below h') hn hc c1 c2 B.a B.b B.c B.d B.e B.f (sub_of hB)
  at_ w' h' p hp' := Mis.rat_any hR (W.below h') hL n1 n9 c0 c9 (hp.below h') hn hc c1 c2 p.1 p.2.1 p.2.2 (sub_pt hp')
  vl w' h' := Mis.rvalidate_any hR (W.below h') hL n1 n9 c0 c9 (hp.below h') hn hc c1 c2
  sp B hB h1 := hS B hB h1
  good := P.good
  bv := P.bv
  f0 := P.f0
  g0 := P.g0
  few := P.few
end
/-- The reference's search looks at a box: a box with one point is not split. -/
theorem rsplit_one {R B : Bx} (bv : Geo.BV B.a B.b B.c B.d B.e B.f) (h1 : one B = true) (w : World) : Calls Try.prog 44 #[.agg (box6 B).toArray] w fun r w' => r = .returned (.tuple #[.agg #[.int .i64 0, .int .i64 0, .int .i64 0, .int .i64 0, .int .i64 0, .int .i64 0], .agg #[.int .i64 0, .int .i64 0, .int .i64 0, .int .i64 0, .int .i64 0, .int .i64 0], .bool false]) ∧ Below w.heap.size w w' := by
  obtain ⟨a, b, c, d, e, f⟩ := B
  unfold one at h1
  simp at h1
  obtain ⟨rfl, rfl, rfl⟩ := h1
  exact Geo.rsplit_lt a b c a b c 1 (by decide) (Lib.hid fun w => by have := Geo.rpoints_2 a b c a b c (Geo.bvB_of bv) w; rwa [Geo.pts_self] at this) w
theorem rcenter_of {B : Bx} (bv : Geo.BV B.a B.b B.c B.d B.e B.f) (w : World) : Calls Try.prog 42 #[.agg (box6 B).toArray] w fun r w' => r = .returned (.agg #[.int .i64 (cen B).1, .int .i64 (cen B).2.1, .int .i64 (cen B).2.2]) ∧ Below w.heap.size w w' :=
  Geo.rcenter_2 B.a B.b B.c B.d B.e B.f (Geo.bvB_of bv) w
theorem rhull_of {B C : Bx} (bv : Geo.BV B.a B.b B.c B.d B.e B.f) (bv' : Geo.BV C.a C.b C.c C.d C.e C.f) (w : World) : Calls Try.prog 45 #[.agg (box6 B).toArray, .agg (box6 C).toArray] w fun r w' => r = .returned (.agg (box6 (hull B C)).toArray) ∧ Below w.heap.size w w' :=
  Geo.rhull_3 B.a B.b B.c B.d B.e B.f C.a C.b C.c C.d C.e C.f (Geo.bvB_of bv) (Geo.bvB_of bv') w
end Loc
end Go.Proofs.Ytldgihlhioeipaa

/- The reference's search: its memory. -/
set_option linter.unusedVariables false
set_option linter.unusedSimpArgs false
namespace Go.Proofs.Ytldgihlhioeipaa
open Go.RowKit Qt
namespace Loc
theorem cellsd_done : ∀ (L : List OD) (k : Nat), k < L.length → cellsd (L.set k ⟨(gd L k).o, true⟩) = (cellsd L).set (k * 8 + 7) (.bool true)
  | [], k, h => absurd h (Nat.not_lt_zero _)
  | x :: L, 0, _ => by rw [List.set_cons_zero, cellsd_cons, cellsd_cons]; rfl
  | x :: L, k + 1, h => by
    have ih := cellsd_done L k (by simpa using h)
    have e : gd (x :: L) (k + 1) = gd L k := rfl
    rw [e, List.set_cons_succ, cellsd_cons, cellsd_cons, ih, show (k + 1) * 8 + 7 = (k * 8 + 7) + 8 by omega]
    rfl
theorem OwnD.done {w : World} {B b n c : Nat} {L : List OD} (h : OwnD w B (.slice (some ⟨b, 0, none⟩) n c) L) {k : Nat} (hk : k < L.length) :
    OwnD (w.setCell ⟨b, k * 8 + 7, none⟩ (.bool true)) B (.slice (some ⟨b, 0, none⟩) n c) (L.set k ⟨(gd L k).o, true⟩) ∧ w.grownBy (w.setCell ⟨b, k * 8 + 7, none⟩ (.bool true)) (some b) := by
  obtain rfl := h.len
  obtain ⟨h1, h2⟩ := World.ownsRow.stored h (k * 8 + 7) (.bool true)
  refine ⟨?_, h2⟩
  unfold OwnD
  rw [List.length_set, cellsd_done L k hk]
  exact h1
/-- What lies in memory while the reference searches. -/
structure RS (A : World) (p2 p4 p11 : Nat) (R : Bx) (q : Pq) (wr : World) (v : Value) (L : List OD) (X : Array Value) : Prop where
  bel : Below A.heap.size A wr
  a2 : A.heap.size ≤ p2
  a4 : A.heap.size ≤ p4
  a11 : A.heap.size ≤ p11
  ne : p4 ≠ p11
  prb : wr.heap[p2]? = some (.cells (prb R q).toArray 36 (0, 0))
  res : wr.heap[p4]? = some (.cells #[.int .i64 0, .int .i64 0, .int .i64 0, .int .i64 0, .int .i64 0, .int .i64 0, .int .i64 0, .int .i64 0, .int .i64 0, .int .i64 0, .int .i64 0, .int .i64 0] 28 (0, 0))
  loc : wr.heap[p11]? = some (.cells X 28 (0, 0))
  own : OwnD wr A.heap.size v L
section
variable {A : World} {p2 p4 p11 : Nat} {R : Bx} {q : Pq} {wr : World} {v : Value} {L : List OD} {X : Array Value}
theorem RS.below (h : RS A p2 p4 p11 R q wr v L X) {w' : World} (hb : Below wr.heap.size wr w') : RS A p2 p4 p11 R q w' v L X :=
  ⟨Buf.then_ h.bel hb, h.a2, h.a4, h.a11, h.ne, Mis.hb hb h.prb, Mis.hb hb h.res, Mis.hb hb h.loc, h.own.below hb⟩
theorem RS.more (h : RS A p2 p4 p11 R q wr v L X) {w' : World} {v' : Value} {L' : List OD} (hg : wr.grownBy w' v.ownBlock) (ho : OwnD w' A.heap.size v' L') : RS A p2 p4 p11 R q w' v' L' X := by
  have k : ∀ (b : Nat) (cs : Array Value) (t : TypeId), wr.heap[b]? = some (.cells cs t (0, 0)) → t ≠ 87 → w'.heap[b]? = some (.cells cs t (0, 0)) := fun b cs t e ht =>
    (hg.block b (Array.getElem?_eq_some_iff.1 e).1 (fun q => h.own.block e ht q.symm)).trans e
  exact ⟨h.bel.trans (below_grown hg h.bel.size (fun j hj => (World.ownsRow.lt h.own j hj).1)), h.a2, h.a4, h.a11, h.ne, k _ _ _ h.prb (by decide), k _ _ _ h.res (by decide), k _ _ _ h.loc (by decide), ho⟩
theorem RS.cells (h : RS A p2 p4 p11 R q wr v L X) (o : Nat) (vs : List Value) {X' : Array Value} (hX : Mid.setMany X o vs = X') : RS A p2 p4 p11 R q (wr.setCells p11 o vs) v L X' := by
  subst hX
  refine ⟨Mid.below _ _ _ h.a11 _ _ _ h.bel, h.a2, h.a4, h.a11, h.ne, (Mid.other p11 p2 (fun e => ?_) _ _ _).trans h.prb, (Mid.other p11 p4 h.ne _ _ _).trans h.res, Mid.heap_set _ _ _ _ _ _ h.loc, h.own.same fun j hj => Mid.other p11 j (fun e => h.own.block h.loc (by decide) (by rw [hj, e])) _ _ _⟩
  have a := h.prb; have b := h.loc
  rw [e, b] at a
  simp at a
theorem RS.cell (h : RS A p2 p4 p11 R q wr v L X) (o : Nat) (u : Value) {X' : Array Value} (hX : X.setIfInBounds o u = X') : RS A p2 p4 p11 R q (wr.setCell ⟨p11, o, none⟩ u) v L X' := RS.cells h o [u] hX
end
/-- Two boxes at the end. -/
theorem append16 {P : Program} {ops : Array Oper} {rest : List Oper} {o : Oper} {a : Act} {Q : Exit → Act → World → Prop} (hgd : o.guard = none) (s x : Operand) (t : TypeId)
    (ho : o.op = .call { callee := .builtin .append, args := #[s, x], argTypes := #[t, t] })
    (B : Nat) (e e1 : TypeId) (i : TypeInfo) (z : Value) (bytes : Nat) (ht : P.underlying t = some (.slice e)) (hi : P.info? e = some i) (hz : i.zero = some z) (hsize : i.size = 8) (hby : i.bytes = bytes) (hzs : z.cells.size = 8)
    {w : World} {v : Value} {n : Nat} {xs : List Value} (hv : a.eval s = v) (h : w.ownsRow B e 8 v n xs) (hB : B ≤ w.heap.size)
    (U : List Value) (hU : U.length = 16) (h1 : ∀ u ∈ U, u.oneCell' = true) (hx : a.eval x = .slice (some ⟨w.heap.size, 0, none⟩) 2 2) (h63 : n + 2 ≤ maxLen) (hbytes : (n + 2) * bytes ≤ 140737488355328)
    (hK : ∀ v' w', w'.ownsRow B e 8 v' (n + 2) (xs ++ U) → (w.alloc (.cells U.toArray e1)).grownBy w' v.ownBlock → wpList P ops Q rest (a.put o.dst v') w') : wpList P ops Q (o :: rest) a (w.alloc (.cells U.toArray e1)) := by
  have hc : ∀ j, (w.alloc (.cells U.toArray e1)).cell? ⟨w.heap.size, j, none⟩ = U.toArray[j]? := fun j => World.cell?_alloc_mark w U.toArray e1 (0, 0) j
  refine wpList_append_own _ hgd s x t ho B e i z 8 bytes ht hi hz hsize hby hzs (by decide) v n xs hv (h.alloc _) ⟨w.heap.size, 0, none⟩ 2 2 U hx (by simp [hU]) (fun j u hu => ?_) h1 h63 hbytes (by simp; omega) (fun v' w' h2 h3 _ => hK v' w' h2 h3)
  rw [Addr.add_lit, Nat.zero_add, hc]
  rw [← hu]
  simp
theorem OwnD.frozen {w : World} {B b n c : Nat} {L : List OD} (h : OwnD w B (.slice (some ⟨b, 0, none⟩) n c) L) (j : Nat) : w.frozen? ⟨b, j, none⟩ = false := by
  obtain rfl := h.len
  exact World.ownsRow.frozenAt h j
theorem OwnD.box {w : World} {B0 b n c : Nat} {L : List OD} (h : OwnD w B0 (.slice (some ⟨b, 0, none⟩) n c) L) {k : Nat} (hk : k < L.length) {B : Bx} (hB : B = (gd L k).o.bx) : w.rangeAt b (k * 8) (box6 B) := fun j u hu => by
  have hj : j < 6 := by have := (List.getElem?_eq_some_iff.1 hu).1; simpa [box6] using this
  exact h.cell hk j u (by
    rw [← hu, hB]
    rcases j with _ | _ | _ | _ | _ | _ | j
    · rfl
    · rfl
    · rfl
    · rfl
    · rfl
    · rfl
    · omega)
/-- A load out of the middle of a block, guarded or not. -/
theorem ldmg {P : Program} {ops : Array Oper} {rest : List Oper} {op : Oper} {a : Act} {w : World} {Q : Exit → Act → World → Prop} (ty : TypeId) (x : Operand) (b o : Nat) (cs : List Value) (hc : w.rangeAt b o cs)
    (ho : op.op = .load ty x) (hw : Region.wanted op (yielded ops a.tmps) = true) (hx : a.eval x = .pointer (some ⟨b, o, none⟩)) (hd : ∃ d, P.underlying ty = some d ∧ d.isRow = true) (hi : (P.info? ty).map (·.size) = some cs.length)
    (h : wpList P ops Q rest (a.put op.dst (.agg cs.toArray)) w) : wpList P ops Q (op :: rest) a w := by
  obtain ⟨d, h1, h2⟩ := hd
  exact Mid.wpList_on hw fun K hK => wp_load_mid ty x ho b o hx cs d hc h1 h2 hi (hK _ _ h)
end Loc
end Go.Proofs.Ytldgihlhioeipaa

/- The reference's search. -/
set_option linter.unusedVariables false
set_option linter.unusedSimpArgs false
namespace Go.Proofs.Ytldgihlhioeipaa
open Go.RowKit Qt
namespace Loc
structure Ckp (p : Prop) : Prop where
  out : p
/-- What the reference's search answers. -/
def RSaid (FN : St) (tol : Int) : Array Value := if ended tol FN = true then #[.agg (lrow FN (lowF FN.m FN.op) (areaF FN.m (pb (FN.x, FN.y, FN.z)) FN.op)).toArray, .int .i64 FN.tk, .int .i64 0] else #[.agg #[.int .i64 0, .int .i64 0, .int .i64 0, .int .i64 0, .int .i64 0, .int .i64 0, .int .i64 0, .int .i64 0, .int .i64 0, .int .i64 0, .int .i64 0, .int .i64 0], .int .i64 0, .int .i64 25]
set_option maxHeartbeats 8000000 in
set_option maxRecDepth 100000 in
noncomputable def ck_root : (P_lv1 : Prop) ×' (Ckp P_lv1 → ∀ (w : World) (Ak : Ask) (R : Bx) (q : Pq) (P : Rr w Ak R q) (tol : Int) (t0 : 0 ≤ tol) (t9 : tol ≤ 1000000), Calls Try.prog 25 #[.agg #[.int .i64 R.a, .int .i64 R.b, .int .i64 R.c, .int .i64 R.d, .int .i64 R.e, .int .i64 R.f, .int .i64 q.s, .slice (some ⟨q.b1, 0, none⟩) q.n q.c1, .slice (some ⟨q.b2, 0, none⟩) q.n2 q.c2, .slice (some ⟨q.gp, 0, none⟩) q.nl q.cc, .int .i64 q.cap], .int .i64 tol] w fun e w' => e = .returned (.tuple (RSaid (run Ak tol 3000 (add Ak start R)) tol)) ∧ Below w.heap.size w w') := by
  apply PSigma.mk
  case snd =>
    intro hck_lv1
    intro w Ak R q P tol t0 t9
    have HP := Lib.hid P
    have i0 := Lib.hid (start_inv P.good)
    obtain ⟨FN, hFN⟩ : ∃ z, z = run Ak tol 3000 (add Ak start R) := ⟨_, rfl⟩
    have F0 : Hid (run Ak tol 3000 (add Ak start R) = FN) := Lib.hid hFN.symm
    rw [← hFN]
    clear hFN P
    obtain ⟨w1, hw1⟩ : ∃ z, z = (w.alloc (.cells #[.int .i64 R.a, .int .i64 R.b, .int .i64 R.c, .int .i64 R.d, .int .i64 R.e, .int .i64 R.f, .int .i64 q.s, .slice (some ⟨q.b1, 0, none⟩) q.n q.c1, .slice (some ⟨q.b2, 0, none⟩) q.n2 q.c2, .slice (some ⟨q.gp, 0, none⟩) q.nl q.cc, .int .i64 q.cap] 36)).alloc (.cells #[.int .i64 0, .int .i64 0, .int .i64 0, .int .i64 0, .int .i64 0, .int .i64 0, .int .i64 0, .int .i64 0, .int .i64 0, .int .i64 0, .int .i64 0, .int .i64 0] 28) := ⟨_, rfl⟩
    have B1 := Lib.hid (show Below w.heap.size w w1 by rw [hw1]; exact Buf.then_ (Mis.new_block _) (Mis.new_block _))
    have K2 := Lib.hid (show w1.heap[w.heap.size]? = some (.cells #[.int .i64 R.a, .int .i64 R.b, .int .i64 R.c, .int .i64 R.d, .int .i64 R.e, .int .i64 R.f, .int .i64 q.s, .slice (some ⟨q.b1, 0, none⟩) q.n q.c1, .slice (some ⟨q.b2, 0, none⟩) q.n2 q.c2, .slice (some ⟨q.gp, 0, none⟩) q.nl q.cc, .int .i64 q.cap] 36 (0, 0)) by rw [hw1]; exact Geo.blk_alloc (Geo.blk_new w _) _)
    have K4 := Lib.hid (show w1.heap[w.heap.size + 1]? = some (.cells #[.int .i64 0, .int .i64 0, .int .i64 0, .int .i64 0, .int .i64 0, .int .i64 0, .int .i64 0, .int .i64 0, .int .i64 0, .int .i64 0, .int .i64 0, .int .i64 0] 28 (0, 0)) by rw [hw1]; exact Geo.blk_new1 w _ _)
    obtain ⟨p2, hp2⟩ : ∃ z, z = w.heap.size := ⟨_, rfl⟩
    obtain ⟨p4, hp4⟩ : ∃ z, z = w.heap.size + 1 := ⟨_, rfl⟩
    rw [← hp2] at K2
    rw [← hp4] at K4
    have a2 : w.heap.size ≤ p2 := by omega
    have a4 : w.heap.size ≤ p4 := by omega
    go_enter Try.func25, Try.ntmps25
    go_upto_region 1 with fail
    rw [← hw1, ← hp4, ← hp2]
    have hps : p4 < w1.heap.size := (Array.getElem?_eq_some_iff.1 K4.out).1
    clear hw1 hp2 hp4
    go_upto_region 2 with (first | ((with_reducible refine Mid.ldr 36 (.tmp 2) p2 36 #[.int .i64 R.a, .int .i64 R.b, .int .i64 R.c, .int .i64 R.d, .int .i64 R.e, .int .i64 R.f, .int .i64 q.s, .slice (some ⟨q.b1, 0, none⟩) q.n q.c1, .slice (some ⟨q.b2, 0, none⟩) q.n2 q.c2, .slice (some ⟨q.gp, 0, none⟩) q.nl q.cc, .int .i64 q.cap] K2.out ?_ ?_ ?_ ?_ ?_ ?_); (· rfl); (· rfl); (· first | rfl | simp [Act.eval]); (· exact ⟨_, rfl, rfl⟩); (· kernel_rfl)) | (go_at_call 39; refine (HP.out.vl _ B1.out).mono ?_; rintro e w2 ⟨rfl, b2⟩; have B2 := Lib.hid (Buf.then_ B1.out b2); have K2b := Lib.hid (Mis.hb b2 K2.out); have K4b := Lib.hid (Mis.hb b2 K4.out); have hps2 := b2.size; clear b2))
    have dt : ¬ (tol < 0) := by omega
    have RB := Lib.hid (Mid.range K2b.out 0 (box6 R) (by rfl))
    go_upto_region 7 with (first | ((with_reducible refine Mid.ldr 36 (.tmp 2) p2 36 #[.int .i64 R.a, .int .i64 R.b, .int .i64 R.c, .int .i64 R.d, .int .i64 R.e, .int .i64 R.f, .int .i64 q.s, .slice (some ⟨q.b1, 0, none⟩) q.n q.c1, .slice (some ⟨q.b2, 0, none⟩) q.n2 q.c2, .slice (some ⟨q.gp, 0, none⟩) q.nl q.cc, .int .i64 q.cap] K2b.out ?_ ?_ ?_ ?_ ?_ ?_); (· rfl); (· rfl); (· first | rfl | simp [Act.eval]); (· exact ⟨_, rfl, rfl⟩); (· kernel_rfl)) | ((with_reducible refine Mid.ldm 26 (.tmp 37) p2 0 (box6 R) RB.out ?_ ?_ ?_ ?_ ?_ ?_); (· rfl); (· rfl); (· first | rfl | simp [Act.eval]); (· exact ⟨_, rfl, rfl⟩); (· kernel_rfl)) | (go_at_call 40; refine (HP.out.bound _ B2.out R HP.out.good.rv).mono ?_; rintro e w3 ⟨rfl, b3⟩; have B3 := Lib.hid (Buf.then_ B2.out b3); have K2c := Lib.hid (Mis.hb b3 K2b.out); have K4c := Lib.hid (Mis.hb b3 K4b.out); have hps3 := b3.size; clear b3))
    have RC := Lib.hid (Mid.range K2c.out 0 [.int .i64 R.a, .int .i64 R.b, .int .i64 R.c, .int .i64 R.d, .int .i64 R.e, .int .i64 R.f] (by rfl))
    go_upto_region 9 with ((with_reducible refine Mid.ldm 26 (.tmp 42) p2 0 [.int .i64 R.a, .int .i64 R.b, .int .i64 R.c, .int .i64 R.d, .int .i64 R.e, .int .i64 R.f] RC.out ?_ ?_ ?_ ?_ ?_ ?_); (· rfl); (· rfl); (· first | rfl | simp [Act.eval]); (· exact ⟨_, rfl, rfl⟩); (· kernel_rfl))
    -- the first box, the result
    have E0 : rowd ⟨⟨R.a, R.b, R.c, R.d, R.e, R.f, Ak.F R, 0⟩, false⟩ = [.int .i64 R.a, .int .i64 R.b, .int .i64 R.c, .int .i64 R.d, .int .i64 R.e, .int .i64 R.f, .int .i64 (Ak.F R), .bool false] := rfl
    have O1 : OwnD (w3.alloc (.cells #[.int .i64 R.a, .int .i64 R.b, .int .i64 R.c, .int .i64 R.d, .int .i64 R.e, .int .i64 R.f, .int .i64 (Ak.F R), .bool false] 87)) w.heap.size (.slice (some ⟨w3.heap.size, 0, none⟩) 1 1) [⟨⟨R.a, R.b, R.c, R.d, R.e, R.f, Ak.F R, 0⟩, false⟩] := by
      have := World.ownsRow_lit (base := w.heap.size) (e := 87) (size := 8) w3 #[.int .i64 R.a, .int .i64 R.b, .int .i64 R.c, .int .i64 R.d, .int .i64 R.e, .int .i64 R.f, .int .i64 (Ak.F R), .bool false] 1 B3.out.size (by decide) (by rfl)
      unfold OwnD
      rw [cellsd_cons, E0]
      exact this
    obtain ⟨w5, hw5⟩ : ∃ z, z = (w3.alloc (.cells #[.int .i64 R.a, .int .i64 R.b, .int .i64 R.c, .int .i64 R.d, .int .i64 R.e, .int .i64 R.f, .int .i64 (Ak.F R), .bool false] 87)).alloc (.cells #[.int .i64 0, .int .i64 0, .int .i64 0, .int .i64 0, .int .i64 0, .int .i64 0, .int .i64 0, .int .i64 0, .int .i64 0, .int .i64 0, .int .i64 0, .int .i64 0] 28) := ⟨_, rfl⟩
    have B35 : Below w3.heap.size w3 w5 := by rw [hw5]; exact Buf.then_ (Mis.new_block _) (Mis.new_block _)
    have S0 : Hid (RS w p2 p4 (w3.heap.size + 1) R q w5 (.slice (some ⟨w3.heap.size, 0, none⟩) 1 1) [⟨⟨R.a, R.b, R.c, R.d, R.e, R.f, Ak.F R, 0⟩, false⟩] (lrow start 0 ⟨0, 0, 0, 0, 0, 0⟩).toArray) := Lib.hid (by
      refine ⟨Buf.then_ B3.out B35, a2, a4, by have := B3.out.size; omega, by omega, Mis.hb B35 K2c.out, Mis.hb B35 K4c.out, ?_, ?_⟩
      · rw [hw5]; exact Geo.blk_new1 w3 _ _
      · rw [hw5]; exact O1.below (Mis.new_block _))
    have R0 := Lib.hid (rel_start (C := Ak) (R := R))
    rw [← hw5]
    obtain ⟨p11, hp11⟩ : ∃ z, z = w3.heap.size + 1 := ⟨_, rfl⟩
    obtain ⟨p10, hp10⟩ : ∃ z, z = w3.heap.size := ⟨_, rfl⟩
    rw [← hp11] at S0 ⊢
    rw [← hp10] at S0 ⊢
    clear hw5 B35 O1 E0 hp11 hp10 RB RC K2 K2b K2c K4 K4b K4c hps hps2 hps3 B1 B2 B3
    go_wp2_with fail
    go_loopw [10, 12] (fun v t wr => ∃ (k : Nat) (L : List OD) (st : St) (ad : Option Addr) (nn cc : Nat), v = .slice ad nn cc ∧ t = .int .i64 st.tk ∧ Hid (RS w p2 p4 p11 R q wr (.slice ad nn cc) L (lrow st 0 ⟨0, 0, 0, 0, 0, 0⟩).toArray) ∧ Hid (Rel L st) ∧ Hid (Inv Ak R st) ∧ Hid (st.tk + (k : Int) = 3000) ∧ Hid (run Ak tol k st = FN) ∧ Hid (st.fd = decide (0 < st.tk)) ∧ Hid (st.fd = true ∨ st.m = 0)) (fun _ t _ => 3001 - (intOf t).toNat)
    case atStart => exact ⟨3000, _, add Ak start R, _, _, _, rfl, rfl, S0, R0, i0, Lib.hid rfl, F0, Lib.hid rfl, Lib.hid (.inr rfl)⟩
    case round =>
      clear S0 R0 i0 F0
      obtain ⟨k, L, st, ad, nn, cc, rfl, rfl, S, RL, I, G, F, D, M0⟩ := hrel
      rename_i lv1i0 lv1i1 lv1i2
      revert w Ak R q tol t0 t9 HP FN w1 p2 p4 a2 a4 lv1i0 w2 w3 dt w5 p11 p10 lv1i1 lv1i2 wr u5 u6 u13 u14 u15 u16 u17 u18 u19 u20 u21 u22 u23 u24 u47 u48 u49 u50 u51 u52 u53 u54 u55 u56 u57 u58 u59 u60 u61 u62 u63 u64 u65 u66 u67 u68 u69 u70 u71 u72 u73 u74 u75 u76 u77 u78 u79 u80 u81 u82 u83 u84 u85 u86 u87 u88 u89 u90 u91 u92 u93 u94 u95 u96 u97 u98 u99 u100 u101 u102 u103 u104 u105 u106 u107 u108 u109 u110 u111 u112 u113 u114 u115 u116 u117 u118 u119 u120 u121 u122 u123 u124 u125 u126 u127 u128 u129 u130 u131 u132 u133 u134 u135 u136 u137 u138 u139 u140 u141 u142 u143 u144 u145 u146 u147 k L st ad nn cc S RL I G F D M0
      exact hck_lv1.out
set_option maxHeartbeats 8000000 in
set_option maxRecDepth 100000 in
noncomputable def ck_lv1 : (P_lv2 : Prop) ×' (P_lv3 : Prop) ×' (Ckp P_lv2 → Ckp P_lv3 → ck_root.1) := by
  apply PSigma.mk
  case snd =>
    apply PSigma.mk
    case snd =>
      intro hck_lv2 hck_lv3
      intro w Ak R q tol t0 t9 HP FN w1 p2 p4 a2 a4
        lv1i0 w2 w3 dt w5 p11 p10 lv1i1 lv1i2 wr u5 u6 u13 u14
        u15 u16 u17 u18 u19 u20 u21 u22 u23 u24 u47 u48 u49 u50
        u51 u52 u53 u54 u55 u56 u57 u58 u59 u60 u61 u62 u63 u64
        u65 u66 u67 u68 u69 u70 u71 u72 u73 u74 u75 u76 u77 u78
        u79 u80 u81 u82 u83 u84 u85 u86 u87 u88 u89 u90 u91 u92
        u93 u94 u95 u96 u97 u98 u99 u100 u101 u102 u103 u104 u105 u106
        u107 u108 u109 u110 u111 u112 u113 u114 u115 u116 u117 u118 u119 u120
        u121 u122 u123 u124 u125 u126 u127 u128 u129 u130 u131 u132 u133 u134
        u135 u136 u137 u138 u139 u140 u141 u142 u143 u144 u145 u146 u147 k
        L st ad nn cc S RL I G F D M0
      have hL9 : L.length ≤ 6001 := by have := rel_len RL.out I.out; have := G.out; omega
      obtain ⟨m0, m9⟩ : 0 ≤ st.m ∧ st.m ≤ 1125899906842624 := by
        rcases M0.out with h | h
        · obtain ⟨h1, h2⟩ := I.out.bst h
          have := HP.out.g0 _ h1
          rw [h2] at this
          exact this
        · omega
      have tk0 := I.out.tk0
      go_upto_region 11 with (go_at_call 41; refine (next_any S.out.own (by omega)).mono ?_; rintro e w4 ⟨rfl, b4⟩; have S4 := Lib.hid (S.out.below b4); clear b4)
      clear S
      obtain ⟨r, hr⟩ : ∃ r, r = ended tol st := ⟨_, rfl⟩
      obtain ⟨u, hu⟩ : ∃ u, u = nxt L L.length := ⟨_, rfl⟩
      obtain ⟨tk, htk⟩ : ∃ u, u = st.tk := ⟨_, rfl⟩
      obtain ⟨m, hm⟩ : ∃ u, u = st.m := ⟨_, rfl⟩
      rw [← hu]
      rw [← htk] at tk0 ⊢
      rw [← hm] at m0 m9
      replace htk := Lib.hid htk
      replace hm := Lib.hid hm
      replace hu := Lib.hid hu
      replace hr := Lib.hid hr
      go_cut [66] (fun v66 wx => v66 = .bool r ∧ Hid (Below w4.heap.size w4 wx))
      case first =>
        by_cases hn : u < 0
        · have er : Hid (r = true) := Lib.hid (hr.out.trans (ended_none RL.out tol (by rw [← hu.out]; exact hn)))
          have d0 : decide (u < 0) = true := decide_eq_true hn
          obtain rfl : r = true := er.out
          go_quiet (fail)
          go_wp2_with fail
          go_meet
          exact ⟨rfl, Lib.hid (Buf.below_drewN (Below.refl _ _) _)⟩
        · obtain ⟨j, hj⟩ : ∃ j : Nat, u = (j : Int) := ⟨u.toNat, by omega⟩
          have er := ended_some RL.out I.out.heap tol (k := j) (by rw [← hu.out]; exact hj)
          obtain ⟨_, hjl, _, _⟩ := rel_some RL.out I.out.heap (k := j) (by rw [← hu.out]; exact hj)
          rw [← hr.out, D.out, ← htk.out, ← hm.out] at er
          subst hj
          have d0 : decide ((j : Int) < 0) = false := decide_eq_false hn
          by_cases ht : 0 < tk
          · have dk : decide (0 < tk) = true := decide_eq_true ht
            have dk2 : decide (tk > 0) = true := decide_eq_true ht
            rw [dk, Bool.true_and] at er
            have hl := S4.out.own.len
            obtain ⟨b, rfl, hx1, hx2, hx3⟩ := S4.out.own.addr (by omega)
            clear hx1 hx2 hx3
            have c6 := S4.out.own.cell hjl 6 _ rfl
            have b0 := (I.out.box _ (RL.out.op.mem_iff.1 (left_mem.2 ⟨_, gd_mem hjl, (rel_some RL.out I.out.heap (k := j) hu.out.symm).2.2.1, rfl⟩)))
            obtain ⟨f0, f9⟩ := HP.out.f0 _ b0.1
            rw [← b0.2] at f0 f9
            obtain ⟨bd, hbd⟩ : ∃ z, z = (gd L j).o.bd := ⟨_, rfl⟩
            rw [← hbd] at c6 er f0 f9
            have c4 : w4.cell? ⟨p11, 4, none⟩ = some (.int .i64 m) := by rw [hm.out]; exact cell_of_row w4 p11 4 _ _ _ S4.out.loc
            have jn : (j : Int) < nn := by omega
            have ew : IntKind.i64.wrap (m - bd) = m - bd := by go_unwrap
            obtain ⟨dm, hdm⟩ : ∃ z, z = decide (m - bd ≤ tol) := ⟨_, rfl⟩
            rw [← hdm] at er
            subst er
            replace hl := Lib.hid hl
            replace hbd := Lib.hid hbd
            clear b0 hn hjl
            cases r with
            | true =>
              have d3 : m - bd ≤ tol := of_decide_eq_true hdm.symm
              have d4 := hdm.symm
              clear hdm
              go_quiet (fail)
              go_wp2_with fail
              go_meet
              exact ⟨rfl, Lib.hid (Buf.below_drewN (Below.refl _ _) _)⟩
            | false =>
              have d3 : ¬ m - bd ≤ tol := of_decide_eq_false hdm.symm
              have d4 := hdm.symm
              clear hdm
              go_quiet (fail)
              go_wp2_with fail
              go_meet
              exact ⟨rfl, Lib.hid (Buf.below_drewN (Below.refl _ _) _)⟩
          · have dk : decide (0 < tk) = false := decide_eq_false ht
            have dk2 : decide (tk > 0) = false := decide_eq_false ht
            rw [dk, Bool.false_and] at er
            subst er
            go_quiet (fail)
            go_wp2_with fail
            go_meet
            exact ⟨rfl, Lib.hid (Buf.below_drewN (Below.refl _ _) _)⟩
      case rest =>
        obtain ⟨rfl, b6⟩ := hcut
        have S6 := Lib.hid (S4.out.below b6.out)
        clear S4 b6
        cases r with
        | true =>
          rename_i lv2i0 lv2i1 lv2i2 lv2i3 lv2i4 lv2i5 lv2i6 lv2i7 lv2i8 lv2i9 lv2i10 lv2i11 lv2i12 lv2i13 lv2i14 lv2i15 lv2i16 lv2i17 lv2i18 lv2i19 lv2i20 lv2i21 lv2i22 lv2i23 lv2i24 lv2i25 lv2i26 lv2i27 lv2i28 lv2i29 lv2i30 lv2i31 lv2i32 lv2i33 lv2i34 lv2i35 lv2i36 lv2i37 lv2i38 lv2i39 lv2i40 lv2i41 lv2i42 lv2i43 lv2i44 lv2i45 lv2i46 lv2i47 lv2i48 lv2i49 lv2i50 lv2i51 lv2i52 lv2i53 lv2i54 lv2i55 lv2i56 lv2i57 lv2i58 lv2i59 lv2i60 lv2i61 lv2i62 lv2i63 lv2i64 lv2i65 lv2i66 lv2i67 lv2i68 lv2i69 lv2i70 lv2i71 lv2i72 lv2i73 lv2i74 lv2i75 lv2i76 lv2i77 lv2i78 lv2i79 lv2i80 lv2i81 lv2i82 lv2i83 lv2i84 lv2i85 lv2i86 lv2i87 lv2i88 lv2i89 lv2i90 lv2i91 lv2i92 lv2i93 lv2i94 lv2i95 lv2i96 lv2i97 lv2i98 lv2i99 lv2i100 lv2i101 lv2i102 lv2i103 lv2i104
          revert w Ak R q tol t0 t9 HP FN w1 p2 p4 a2 a4 lv1i0 w2 w3 dt w5 p11 p10 lv1i1 lv1i2 wr u5 u6 u13 u14 u15 u16 u17 u18 u19 u20 u21 u22 u23 u24 lv2i0 lv2i1 lv2i2 lv2i3 lv2i4 lv2i5 lv2i6 lv2i7 lv2i8 lv2i9 lv2i10 lv2i11 lv2i12 lv2i13 lv2i14 lv2i15 lv2i16 lv2i17 lv2i18 u66 lv2i19 lv2i20 lv2i21 lv2i22 lv2i23 lv2i24 lv2i25 lv2i26 lv2i27 lv2i28 lv2i29 lv2i30 lv2i31 lv2i32 lv2i33 lv2i34 lv2i35 lv2i36 lv2i37 lv2i38 lv2i39 lv2i40 lv2i41 lv2i42 lv2i43 lv2i44 lv2i45 lv2i46 lv2i47 lv2i48 lv2i49 lv2i50 lv2i51 lv2i52 lv2i53 lv2i54 lv2i55 lv2i56 lv2i57 lv2i58 lv2i59 lv2i60 lv2i61 lv2i62 lv2i63 lv2i64 lv2i65 lv2i66 lv2i67 lv2i68 lv2i69 lv2i70 lv2i71 lv2i72 lv2i73 lv2i74 lv2i75 lv2i76 lv2i77 lv2i78 lv2i79 lv2i80 lv2i81 lv2i82 lv2i83 lv2i84 lv2i85 lv2i86 lv2i87 lv2i88 lv2i89 lv2i90 lv2i91 lv2i92 lv2i93 lv2i94 lv2i95 lv2i96 lv2i97 lv2i98 lv2i99 k L st ad nn cc RL I G F D M0 hL9 lv2i100 w4 lv2i101 lv2i102 lv2i103 lv2i104 u tk tk0 m m9 m0 htk hm hu wc u47 u48 u49 u50 u51 u52 u53 u54 u55 u56 u57 u58 u59 u60 u61 u62 u63 u64 u65 u67 u68 u69 u70 u71 u72 u73 u74 u75 u76 u77 u78 u79 u80 u81 u82 u83 u84 u85 u86 u87 u88 u89 u90 u91 u92 u93 u94 u95 u96 u97 u98 u99 u100 u101 u102 u103 u104 u105 u106 u107 u108 u109 u110 u111 u112 u113 u114 u115 u116 u117 u118 u119 u120 u121 u122 u123 u124 u125 u126 u127 u128 u129 u130 u131 u132 u133 u134 u135 u136 u137 u138 u139 u140 u141 u142 u143 u144 u145 u146 u147 S6 hr
          exact hck_lv2.out
        | false =>
          rename_i lv3i0 lv3i1 lv3i2 lv3i3 lv3i4 lv3i5 lv3i6 lv3i7 lv3i8 lv3i9 lv3i10 lv3i11 lv3i12 lv3i13 lv3i14 lv3i15 lv3i16 lv3i17 lv3i18 lv3i19 lv3i20 lv3i21 lv3i22 lv3i23 lv3i24 lv3i25 lv3i26 lv3i27 lv3i28 lv3i29 lv3i30 lv3i31 lv3i32 lv3i33 lv3i34 lv3i35 lv3i36 lv3i37 lv3i38 lv3i39 lv3i40 lv3i41 lv3i42 lv3i43 lv3i44 lv3i45 lv3i46 lv3i47 lv3i48 lv3i49 lv3i50 lv3i51 lv3i52 lv3i53 lv3i54 lv3i55 lv3i56 lv3i57 lv3i58 lv3i59 lv3i60 lv3i61 lv3i62 lv3i63 lv3i64 lv3i65 lv3i66 lv3i67 lv3i68 lv3i69 lv3i70 lv3i71 lv3i72 lv3i73 lv3i74 lv3i75 lv3i76 lv3i77 lv3i78 lv3i79 lv3i80 lv3i81 lv3i82 lv3i83 lv3i84 lv3i85 lv3i86 lv3i87 lv3i88 lv3i89 lv3i90 lv3i91 lv3i92 lv3i93 lv3i94 lv3i95 lv3i96 lv3i97 lv3i98 lv3i99 lv3i100 lv3i101 lv3i102 lv3i103 lv3i104
          revert w Ak R q tol t0 t9 HP FN w1 p2 p4 a2 a4 lv1i0 w2 w3 dt w5 p11 p10 lv1i1 lv1i2 wr u5 u6 u13 u14 u15 u16 u17 u18 u19 u20 u21 u22 u23 u24 lv3i0 lv3i1 lv3i2 lv3i3 lv3i4 lv3i5 lv3i6 lv3i7 lv3i8 lv3i9 lv3i10 lv3i11 lv3i12 lv3i13 lv3i14 lv3i15 lv3i16 lv3i17 lv3i18 u66 lv3i19 lv3i20 lv3i21 lv3i22 lv3i23 lv3i24 lv3i25 lv3i26 lv3i27 lv3i28 lv3i29 lv3i30 lv3i31 lv3i32 lv3i33 lv3i34 lv3i35 lv3i36 lv3i37 lv3i38 lv3i39 lv3i40 lv3i41 lv3i42 lv3i43 lv3i44 lv3i45 lv3i46 lv3i47 lv3i48 lv3i49 lv3i50 lv3i51 lv3i52 lv3i53 lv3i54 lv3i55 lv3i56 lv3i57 lv3i58 lv3i59 lv3i60 lv3i61 lv3i62 lv3i63 lv3i64 lv3i65 lv3i66 lv3i67 lv3i68 lv3i69 lv3i70 lv3i71 lv3i72 lv3i73 lv3i74 lv3i75 lv3i76 lv3i77 lv3i78 lv3i79 lv3i80 lv3i81 lv3i82 lv3i83 lv3i84 lv3i85 lv3i86 lv3i87 lv3i88 lv3i89 lv3i90 lv3i91 lv3i92 lv3i93 lv3i94 lv3i95 lv3i96 lv3i97 lv3i98 lv3i99 k L st ad nn cc RL I G F D M0 hL9 lv3i100 w4 lv3i101 lv3i102 lv3i103 lv3i104 u tk tk0 m m9 m0 htk hm hu wc u47 u48 u49 u50 u51 u52 u53 u54 u55 u56 u57 u58 u59 u60 u61 u62 u63 u64 u65 u67 u68 u69 u70 u71 u72 u73 u74 u75 u76 u77 u78 u79 u80 u81 u82 u83 u84 u85 u86 u87 u88 u89 u90 u91 u92 u93 u94 u95 u96 u97 u98 u99 u100 u101 u102 u103 u104 u105 u106 u107 u108 u109 u110 u111 u112 u113 u114 u115 u116 u117 u118 u119 u120 u121 u122 u123 u124 u125 u126 u127 u128 u129 u130 u131 u132 u133 u134 u135 u136 u137 u138 u139 u140 u141 u142 u143 u144 u145 u146 u147 S6 hr
          exact hck_lv3.out
set_option maxHeartbeats 8000000 in
set_option maxRecDepth 100000 in
noncomputable def ck_lv3 : (P_lv4 : Prop) ×' (Ckp P_lv4 → ck_lv1.2.1) := by
  apply PSigma.mk
  case snd =>
    intro hck_lv4
    intro w Ak R q tol t0 t9 HP FN w1 p2 p4 a2 a4
      lv1i0 w2 w3 dt w5 p11 p10 lv1i1 lv1i2 wr u5 u6 u13 u14
      u15 u16 u17 u18 u19 u20 u21 u22 u23 u24 lv3i0 lv3i1 lv3i2 lv3i3
      lv3i4 lv3i5 lv3i6 lv3i7 lv3i8 lv3i9 lv3i10 lv3i11 lv3i12 lv3i13 lv3i14 lv3i15 lv3i16 lv3i17
      lv3i18 u66 lv3i19 lv3i20 lv3i21 lv3i22 lv3i23 lv3i24 lv3i25 lv3i26 lv3i27 lv3i28 lv3i29 lv3i30
      lv3i31 lv3i32 lv3i33 lv3i34 lv3i35 lv3i36 lv3i37 lv3i38 lv3i39 lv3i40 lv3i41 lv3i42 lv3i43 lv3i44
      lv3i45 lv3i46 lv3i47 lv3i48 lv3i49 lv3i50 lv3i51 lv3i52 lv3i53 lv3i54 lv3i55 lv3i56 lv3i57 lv3i58
      lv3i59 lv3i60 lv3i61 lv3i62 lv3i63 lv3i64 lv3i65 lv3i66 lv3i67 lv3i68 lv3i69 lv3i70 lv3i71 lv3i72
      lv3i73 lv3i74 lv3i75 lv3i76 lv3i77 lv3i78 lv3i79 lv3i80 lv3i81 lv3i82 lv3i83 lv3i84 lv3i85 lv3i86
      lv3i87 lv3i88 lv3i89 lv3i90 lv3i91 lv3i92 lv3i93 lv3i94 lv3i95 lv3i96 lv3i97 lv3i98 lv3i99 k
      L st ad nn cc RL I G F D M0 hL9 lv3i100 w4
      lv3i101 lv3i102 lv3i103 lv3i104 u tk tk0 m m9 m0 htk hm hu wc
      u47 u48 u49 u50 u51 u52 u53 u54 u55 u56 u57 u58 u59 u60
      u61 u62 u63 u64 u65 u67 u68 u69 u70 u71 u72 u73 u74 u75
      u76 u77 u78 u79 u80 u81 u82 u83 u84 u85 u86 u87 u88 u89
      u90 u91 u92 u93 u94 u95 u96 u97 u98 u99 u100 u101 u102 u103
      u104 u105 u106 u107 u108 u109 u110 u111 u112 u113 u114 u115 u116 u117
      u118 u119 u120 u121 u122 u123 u124 u125 u126 u127 u128 u129 u130 u131
      u132 u133 u134 u135 u136 u137 u138 u139 u140 u141 u142 u143 u144 u145
      u146 u147 S6 hr
    go_upto_region 12 with fail
    by_cases h3 : tk = 3000
    · subst h3
      obtain rfl : k = 0 := by have := G.out; have := htk.out; omega
      have eF : st = FN := F.out
      have hR : Hid (RSaid FN tol = #[.agg #[.int .i64 0, .int .i64 0, .int .i64 0, .int .i64 0, .int .i64 0, .int .i64 0, .int .i64 0, .int .i64 0, .int .i64 0, .int .i64 0, .int .i64 0, .int .i64 0], .int .i64 0, .int .i64 25]) := Lib.hid (by unfold RSaid; rw [← eF, ← hr.out]; rfl)
      clear eF
      go_upto_region 13 with fail
      go_wp2_with ((with_reducible refine Mid.str 28 (.tmp 4) (.tmp 69) p4 28 #[.int .i64 0, .int .i64 0, .int .i64 0, .int .i64 0, .int .i64 0, .int .i64 0, .int .i64 0, .int .i64 0, .int .i64 0, .int .i64 0, .int .i64 0, .int .i64 0] #[.int .i64 0, .int .i64 0, .int .i64 0, .int .i64 0, .int .i64 0, .int .i64 0, .int .i64 0, .int .i64 0, .int .i64 0, .int .i64 0, .int .i64 0, .int .i64 0] S6.out.res ?_ ?_ ?_ ?_ ?_ ?_ ?_ ?_); (· rfl); (· rfl); (· first | rfl | simp [Act.eval]); (· first | rfl | simp [Act.eval]); (· kernel_rfl); (· rfl); (· simp [Value.oneCell']))
      try simp only [Act.put]
      have ZF : (wc.setRow p4 #[.int .i64 0, .int .i64 0, .int .i64 0, .int .i64 0, .int .i64 0, .int .i64 0, .int .i64 0, .int .i64 0, .int .i64 0, .int .i64 0, .int .i64 0, .int .i64 0]).heap[p4]? = some (.cells #[.int .i64 0, .int .i64 0, .int .i64 0, .int .i64 0, .int .i64 0, .int .i64 0, .int .i64 0, .int .i64 0, .int .i64 0, .int .i64 0, .int .i64 0, .int .i64 0] 28 (0, 0)) := setRow_heap _ _ _ _ _ _ S6.out.res
      exact bodyPost_ret (Res.row_tmp2 rfl _ _ p4 _ _ _ _ rfl ZF rfl (by rfl) rfl) rfl ⟨by rw [hR.out]; rfl, Mid.below_row S6.out.bel _ _ S6.out.a4⟩
    · have ht9 : st.tk ≤ 2999 := by have := G.out; have := htk.out; omega
      have d3 : (tk == 3000) = false := by simp; exact h3
      obtain ⟨k', rfl⟩ : ∃ k', k = k' + 1 := ⟨k - 1, by have := G.out; omega⟩
      have F2 : Hid (run Ak tol k' (take Ak st) = FN) := Lib.hid (by have := F.out; rw [run_step hr.out.symm] at this; exact this)
      obtain ⟨j, hj⟩ : ∃ j : Nat, u = (j : Int) := by
        by_cases hn : u < 0
        · have := ended_none RL.out tol (by rw [← hu.out]; exact hn)
          rw [← hr.out] at this
          exact absurd this (by decide)
        · exact ⟨u.toNat, by omega⟩
      subst hj
      obtain ⟨hop, hjl, hjd, hjo⟩ := rel_some RL.out I.out.heap (k := j) hu.out.symm
      obtain ⟨J, J1, J2⟩ := take_inv HP.out.good I.out (by omega : st.op.length ≠ 0)
      have G2 : Hid ((take Ak st).tk + (k' : Int) = 3000) := Lib.hid (by have := G.out; omega)
      obtain ⟨B, hB⟩ : ∃ B, B = (gd L j).o.bx := ⟨_, rfl⟩
      have hSb : Sb R B := by rw [hB, hjo]; exact (I.out.box _ (g_mem (by omega))).1
      have hct := inB_sub hSb (cen_in hSb)
      have bv := HP.out.bv B hSb
      have hl := S6.out.own.len
      obtain ⟨b, rfl, hx1, hx2, hx3⟩ := S6.out.own.addr (by omega)
      clear hx1 hx2 hx3
      have jn : (j : Int) < nn := by omega
      have c7 := S6.out.own.cell hjl 7 _ rfl
      have f7 := S6.out.own.frozen (j * 8 + 7)
      rw [hjd] at c7
      have OD := S6.out.own.done hjl
      have hjl2 : j < (L.set j ⟨(gd L j).o, true⟩).length := by rw [List.length_set]; exact hjl
      have hB2 : B = (gd (L.set j ⟨(gd L j).o, true⟩) j).o.bx := by rw [gd_set hjl, if_pos rfl]; exact hB
      replace J := Lib.hid J
      replace J1 := Lib.hid J1
      replace J2 := Lib.hid J2
      replace hB := Lib.hid hB
      replace hSb := Lib.hid hSb
      replace hct := Lib.hid hct
      replace bv := Lib.hid bv
      replace hl := Lib.hid hl
      replace hjo := Lib.hid hjo
      replace hjd := Lib.hid hjd
      have hJL := Lib.hid hjl
      clear hop hjl F G
      go_upto_region 15 with fail
      have S7 := Lib.hid (S6.out.more OD.2 OD.1)
      obtain ⟨w7, hw7⟩ : ∃ z, z = wc.setCell ⟨b, j * 8 + 7, none⟩ (.bool true) := ⟨_, rfl⟩
      rw [← hw7] at S7 ⊢
      have RBX := Lib.hid (OwnD.box S7.out.own hjl2 hB2)
      replace hjl2 := Lib.hid hjl2
      replace hB2 := Lib.hid hB2
      clear hw7 c7 f7 OD S6
      obtain ⟨x1, x2, x3, hx1, hx2, hx3⟩ : ∃ x1 x2 x3, x1 = (cen B).1 ∧ x2 = (cen B).2.1 ∧ x3 = (cen B).2.2 := ⟨_, _, _, rfl, rfl, rfl⟩
      have hxc : Hid ((x1, x2, x3) = cen B) := Lib.hid (by rw [hx1, hx2, hx3])
      have CE : Hid (∀ w', Calls Try.prog 42 #[.agg (box6 B).toArray] w' fun r w'' => r = .returned (.agg #[.int .i64 x1, .int .i64 x2, .int .i64 x3]) ∧ Below w'.heap.size w' w'') := Lib.hid fun w' => by rw [hx1, hx2, hx3]; exact rcenter_of bv.out w'
      clear hx1 hx2 hx3
      go_upto_region 16 with (first | ((with_reducible refine Mid.ldm 26 (.tmp 77) b (j * 8) (box6 B) RBX.out ?_ ?_ ?_ ?_ ?_ ?_); (· rfl); (· rfl); (· first | rfl | simp [Act.eval]); (· exact ⟨_, rfl, rfl⟩); (· kernel_rfl)) | (go_at_call 42; refine (CE.out _).mono ?_; rintro e w8 ⟨rfl, b8⟩; have S8 := Lib.hid (S7.out.below b8); clear b8) | ((with_reducible refine Mid.str 24 (.tmp 14) (.tmp 79) w8.heap.size 24 #[.int .i64 0, .int .i64 0, .int .i64 0] #[.int .i64 x1, .int .i64 x2, .int .i64 x3] (heap_alloc_new w8 _) ?_ ?_ ?_ ?_ ?_ ?_ ?_ ?_); (· rfl); (· rfl); (· first | rfl | simp [Act.eval]); (· first | rfl | simp [Act.eval]); (· kernel_rfl); (· rfl); (· simp [Value.oneCell'])))
      try simp only [Act.put]
      have N9 : Below w8.heap.size w8 ((w8.alloc (.cells #[.int .i64 0, .int .i64 0, .int .i64 0] 24)).setRow w8.heap.size #[.int .i64 x1, .int .i64 x2, .int .i64 x3]) := Mid.below_row (Mis.new_block _) _ _ (Nat.le_refl _)
      have K9 := Lib.hid (show ((w8.alloc (.cells #[.int .i64 0, .int .i64 0, .int .i64 0] 24)).setRow w8.heap.size #[.int .i64 x1, .int .i64 x2, .int .i64 x3]).heap[w8.heap.size]? = some (.cells #[.int .i64 x1, .int .i64 x2, .int .i64 x3] 24 (0, 0)) from setRow_heap _ _ _ _ _ _ (heap_alloc_new w8 _))
      obtain ⟨w9, hw9⟩ : ∃ z, z = (w8.alloc (.cells #[.int .i64 0, .int .i64 0, .int .i64 0] 24)).setRow w8.heap.size #[.int .i64 x1, .int .i64 x2, .int .i64 x3] := ⟨_, rfl⟩
      rw [← hw9] at N9 K9 ⊢
      have S9 := Lib.hid (S8.out.below N9)
      obtain ⟨p14, hp14⟩ : ∃ z, z = w8.heap.size := ⟨_, rfl⟩
      rw [← hp14] at K9 ⊢
      clear hw9 hp14 N9 S8 S7 RBX CE
      rename_i lv4i0 lv4i1
      revert w Ak R q tol t0 t9 HP FN w1 p2 p4 a2 a4 lv1i0 w2 w3 dt w5 p11 p10 lv1i1 lv1i2 wr u5 u6 u13 u14 u15 u16 u17 u18 u19 u20 u21 u22 u23 u24 lv3i0 lv3i1 lv3i2 lv3i3 lv3i4 lv3i5 lv3i6 lv3i7 lv3i8 lv3i9 lv3i10 lv3i11 lv3i12 lv3i13 lv3i14 lv3i15 lv3i16 lv3i17 lv3i18 u66 lv3i19 lv3i20 lv3i21 lv3i22 lv3i23 lv3i24 lv3i25 lv3i26 lv3i27 lv3i28 lv3i29 lv3i30 lv3i31 lv3i32 lv3i33 lv3i34 lv3i35 lv3i36 lv3i37 lv3i38 lv3i39 lv3i40 lv3i41 lv3i42 lv3i43 lv3i44 lv3i45 lv3i46 lv3i47 lv3i48 lv3i49 lv3i50 lv3i51 lv3i52 lv3i53 lv3i54 lv3i55 lv3i56 lv3i57 lv3i58 lv3i59 lv3i60 lv3i61 lv3i62 lv3i63 lv3i64 lv3i65 lv3i66 lv3i67 lv3i68 lv3i69 lv3i70 lv3i71 lv3i72 lv3i73 lv3i74 lv3i75 lv3i76 lv3i77 lv3i78 lv3i79 lv3i80 lv3i81 lv3i82 lv3i83 lv3i84 lv3i85 lv3i86 lv3i87 lv3i88 lv3i89 lv3i90 lv3i91 lv3i92 lv3i93 lv3i94 lv3i95 lv3i96 lv3i97 lv3i98 lv3i99 L st nn cc RL I D M0 hL9 w4 tk tk0 m m9 m0 htk hm wc u47 u48 u49 u50 u51 u52 u53 u54 u55 u56 u57 u58 u59 u60 u61 u62 u63 u64 u65 u67 u68 u69 u70 u71 u72 u73 u74 u75 u76 u77 u78 u79 u80 u81 u82 u83 u84 u85 u86 u87 u88 u89 u90 u91 u92 u93 u94 u95 u96 u97 u98 u99 u100 u101 u102 u103 u104 u105 u106 u107 u108 u109 u110 u111 u112 u113 u114 u115 u116 u117 u118 u119 u120 u121 u122 u123 u124 u125 u126 u127 u128 u129 u130 u131 u132 u133 u134 u135 u136 u137 u138 u139 u140 u141 u142 u143 u144 u145 u146 u147 hr h3 ht9 d3 k' F2 j hu G2 B b lv3i100 jn J J1 J2 hB hSb hct bv hl hjo hjd hJL w7 hjl2 hB2 x1 x2 x3 hxc w8 lv4i0 lv4i1 w9 S9 p14 K9
      exact hck_lv4.out
set_option maxHeartbeats 8000000 in
set_option maxRecDepth 100000 in
noncomputable def ck_lv4 : (P_lv5 : Prop) ×' (Ckp P_lv5 → ck_lv3.1) := by
  apply PSigma.mk
  case snd =>
    intro hck_lv5
    intro w Ak R q tol t0 t9 HP FN w1 p2 p4 a2 a4
      lv1i0 w2 w3 dt w5 p11 p10 lv1i1 lv1i2 wr u5 u6 u13 u14
      u15 u16 u17 u18 u19 u20 u21 u22 u23 u24 lv3i0 lv3i1 lv3i2 lv3i3
      lv3i4 lv3i5 lv3i6 lv3i7 lv3i8 lv3i9 lv3i10 lv3i11 lv3i12 lv3i13 lv3i14 lv3i15 lv3i16 lv3i17
      lv3i18 u66 lv3i19 lv3i20 lv3i21 lv3i22 lv3i23 lv3i24 lv3i25 lv3i26 lv3i27 lv3i28 lv3i29 lv3i30
      lv3i31 lv3i32 lv3i33 lv3i34 lv3i35 lv3i36 lv3i37 lv3i38 lv3i39 lv3i40 lv3i41 lv3i42 lv3i43 lv3i44
      lv3i45 lv3i46 lv3i47 lv3i48 lv3i49 lv3i50 lv3i51 lv3i52 lv3i53 lv3i54 lv3i55 lv3i56 lv3i57 lv3i58
      lv3i59 lv3i60 lv3i61 lv3i62 lv3i63 lv3i64 lv3i65 lv3i66 lv3i67 lv3i68 lv3i69 lv3i70 lv3i71 lv3i72
      lv3i73 lv3i74 lv3i75 lv3i76 lv3i77 lv3i78 lv3i79 lv3i80 lv3i81 lv3i82 lv3i83 lv3i84 lv3i85 lv3i86
      lv3i87 lv3i88 lv3i89 lv3i90 lv3i91 lv3i92 lv3i93 lv3i94 lv3i95 lv3i96 lv3i97 lv3i98 lv3i99 L
      st nn cc RL I D M0 hL9 w4 tk tk0 m m9 m0
      htk hm wc u47 u48 u49 u50 u51 u52 u53 u54 u55 u56 u57
      u58 u59 u60 u61 u62 u63 u64 u65 u67 u68 u69 u70 u71 u72
      u73 u74 u75 u76 u77 u78 u79 u80 u81 u82 u83 u84 u85 u86
      u87 u88 u89 u90 u91 u92 u93 u94 u95 u96 u97 u98 u99 u100
      u101 u102 u103 u104 u105 u106 u107 u108 u109 u110 u111 u112 u113 u114
      u115 u116 u117 u118 u119 u120 u121 u122 u123 u124 u125 u126 u127 u128
      u129 u130 u131 u132 u133 u134 u135 u136 u137 u138 u139 u140 u141 u142
      u143 u144 u145 u146 u147 hr h3 ht9 d3 k' F2 j hu G2
      B b lv3i100 jn J J1 J2 hB hSb hct bv hl hjo hjd
      hJL w7 hjl2 hB2 x1 x2 x3 hxc w8 lv4i0 lv4i1 w9 S9 p14
      K9
    obtain ⟨t1, ht1⟩ : ∃ z, z = (Ak.G (x1, x2, x3)).1 := ⟨_, rfl⟩
    obtain ⟨cost, hcost⟩ : ∃ z, z = (Ak.G (x1, x2, x3)).2 := ⟨_, rfl⟩
    have AT := Lib.hid (HP.out.at_ w9 S9.out.bel (x1, x2, x3) (by rw [hxc.out]; exact hct.out))
    rw [← ht1, ← hcost] at AT
    have PB9 := Lib.hid (show w9.heap[p2]? = some (.cells #[.int .i64 R.a, .int .i64 R.b, .int .i64 R.c, .int .i64 R.d, .int .i64 R.e, .int .i64 R.f, .int .i64 q.s, .slice (some ⟨q.b1, 0, none⟩) q.n q.c1, .slice (some ⟨q.b2, 0, none⟩) q.n2 q.c2, .slice (some ⟨q.gp, 0, none⟩) q.nl q.cc, .int .i64 q.cap] 36 (0, 0)) from S9.out.prb)
    obtain ⟨g0, g9⟩ := HP.out.g0 (x1, x2, x3) (by rw [hxc.out]; exact hct.out)
    rw [← hcost] at g0 g9
    replace ht1 := Lib.hid ht1
    replace hcost := Lib.hid hcost
    go_upto_region 17 with (first | ((with_reducible refine Mid.ldr 36 (.tmp 2) p2 36 #[.int .i64 R.a, .int .i64 R.b, .int .i64 R.c, .int .i64 R.d, .int .i64 R.e, .int .i64 R.f, .int .i64 q.s, .slice (some ⟨q.b1, 0, none⟩) q.n q.c1, .slice (some ⟨q.b2, 0, none⟩) q.n2 q.c2, .slice (some ⟨q.gp, 0, none⟩) q.nl q.cc, .int .i64 q.cap] PB9.out ?_ ?_ ?_ ?_ ?_ ?_); (· rfl); (· rfl); (· first | rfl | simp [Act.eval]); (· exact ⟨_, rfl, rfl⟩); (· kernel_rfl)) | ((with_reducible refine Mid.ldr 24 (.tmp 14) p14 24 #[.int .i64 x1, .int .i64 x2, .int .i64 x3] K9.out ?_ ?_ ?_ ?_ ?_ ?_); (· rfl); (· rfl); (· first | rfl | simp [Act.eval]); (· exact ⟨_, rfl, rfl⟩); (· kernel_rfl)) | (go_at_call 26; refine AT.out.mono ?_; rintro e w10 ⟨rfl, b10⟩; have S10 := Lib.hid (S9.out.below b10); have K10 := Lib.hid (Mis.hb b10 K9.out); clear b10))
    clear AT PB9 S9 K9
    obtain ⟨r, hr2⟩ : ∃ r, r = better Ak (first st) (x1, x2, x3) := ⟨_, rfl⟩
    have hcon : Hid (consider Ak (first st) (cen B) = if r = true then { (first st) with fd := true, x := x1, y := x2, z := x3, t := t1, m := cost } else first st) := Lib.hid (by rw [hr2, ht1.out, hcost.out, ← hxc.out]; rfl)
    have hr3 : r = (!(decide (0 < tk)) || decide (cost < m) || (decide (cost = m) && lex3 (x1, x2, x3) (st.x, st.y, st.z))) := by rw [hr2, hcost.out, hm.out, htk.out, ← D.out]; rfl
    obtain ⟨lx, hlx⟩ : ∃ l, l = Geo.cmp3 (Geo.cmpI x1 st.x) (Geo.cmpI x2 st.y) (Geo.cmpI x3 st.z) := ⟨_, rfl⟩
    have KC := Geo.rcompare_any x1 x2 x3 st.x st.y st.z
    rw [← hlx] at KC
    have hll : lex3 (x1, x2, x3) (st.x, st.y, st.z) = decide (lx < 0) := by rw [hlx, lex_cmp]
    rw [hll] at hr3
    replace KC := Lib.hid KC
    replace hr2 := Lib.hid hr2
    clear hlx hll
    have RX := Lib.hid (Mid.range S10.out.loc 0 [.int .i64 st.x, .int .i64 st.y, .int .i64 st.z] (by rfl))
    have c4 : w10.cell? ⟨p11, 4, none⟩ = some (.int .i64 m) := by rw [hm.out]; exact cell_of_row w10 p11 4 _ _ _ S10.out.loc
    go_cut [107] (fun v107 wx => v107 = .bool r ∧ Hid (Below w10.heap.size w10 wx))
    case first =>
      by_cases h0 : 0 < tk
      · have e0 : (tk == 0) = false := by simp; omega
        rw [decide_eq_true h0, Bool.not_true, Bool.false_or] at hr3
        by_cases h1 : cost < m
        · have d1 : decide (cost < m) = true := decide_eq_true h1
          rw [d1, Bool.true_or] at hr3
          subst hr3
          go_wp2_with (first | ((with_reducible refine Mid.ldrg 24 (.tmp 14) p14 24 #[.int .i64 x1, .int .i64 x2, .int .i64 x3] K10.out ?_ ?_ ?_ ?_ ?_ ?_); (· rfl); (· first | rfl | simp [Region.wanted, yielded]); (· first | rfl | simp [Act.eval]); (· exact ⟨_, rfl, rfl⟩); (· kernel_rfl)) | ((with_reducible refine ldmg 24 (.tmp 102) p11 0 [.int .i64 st.x, .int .i64 st.y, .int .i64 st.z] RX.out ?_ ?_ ?_ ?_ ?_ ?_); (· rfl); (· first | rfl | simp [Region.wanted, yielded]); (· first | rfl | simp [Act.eval]); (· exact ⟨_, rfl, rfl⟩); (· kernel_rfl)) | (go_at_call 43; (with_reducible refine (KC.out _).mono ?_); rintro e w11 ⟨rfl, b11⟩))
          go_meet
          exact ⟨rfl, Lib.hid (Below.refl _ _)⟩
        · have d1 : decide (cost < m) = false := decide_eq_false h1
          rw [d1, Bool.false_or] at hr3
          by_cases h2 : cost = m
          · have d2 : (cost == m) = true := by simp [h2]
            rw [decide_eq_true h2, Bool.true_and] at hr3
            replace hr3 := Lib.hid hr3
            replace h2 := Lib.hid h2
            go_wp2_with (first | ((with_reducible refine Mid.ldrg 24 (.tmp 14) p14 24 #[.int .i64 x1, .int .i64 x2, .int .i64 x3] K10.out ?_ ?_ ?_ ?_ ?_ ?_); (· rfl); (· first | rfl | simp [Region.wanted, yielded]); (· first | rfl | simp [Act.eval]); (· exact ⟨_, rfl, rfl⟩); (· kernel_rfl)) | ((with_reducible refine ldmg 24 (.tmp 102) p11 0 [.int .i64 st.x, .int .i64 st.y, .int .i64 st.z] RX.out ?_ ?_ ?_ ?_ ?_ ?_); (· rfl); (· first | rfl | simp [Region.wanted, yielded]); (· first | rfl | simp [Act.eval]); (· exact ⟨_, rfl, rfl⟩); (· kernel_rfl)) | (go_at_call 43; (with_reducible refine (KC.out _).mono ?_); rintro e w11 ⟨rfl, b11⟩))
            go_meet
            exact ⟨by rw [hr3.out], Lib.hid b11⟩
          · have d2 : (cost == m) = false := by simp [h2]
            rw [decide_eq_false h2, Bool.false_and] at hr3
            subst hr3
            replace h2 := Lib.hid h2
            go_wp2_with (first | ((with_reducible refine Mid.ldrg 24 (.tmp 14) p14 24 #[.int .i64 x1, .int .i64 x2, .int .i64 x3] K10.out ?_ ?_ ?_ ?_ ?_ ?_); (· rfl); (· first | rfl | simp [Region.wanted, yielded]); (· first | rfl | simp [Act.eval]); (· exact ⟨_, rfl, rfl⟩); (· kernel_rfl)) | ((with_reducible refine ldmg 24 (.tmp 102) p11 0 [.int .i64 st.x, .int .i64 st.y, .int .i64 st.z] RX.out ?_ ?_ ?_ ?_ ?_ ?_); (· rfl); (· first | rfl | simp [Region.wanted, yielded]); (· first | rfl | simp [Act.eval]); (· exact ⟨_, rfl, rfl⟩); (· kernel_rfl)) | (go_at_call 43; (with_reducible refine (KC.out _).mono ?_); rintro e w11 ⟨rfl, b11⟩))
            go_meet
            exact ⟨rfl, Lib.hid (Below.refl _ _)⟩
      · obtain rfl : tk = 0 := by omega
        rw [decide_eq_false h0, Bool.not_false, Bool.true_or, Bool.true_or] at hr3
        subst hr3
        go_wp2_with (first | ((with_reducible refine Mid.ldrg 24 (.tmp 14) p14 24 #[.int .i64 x1, .int .i64 x2, .int .i64 x3] K10.out ?_ ?_ ?_ ?_ ?_ ?_); (· rfl); (· first | rfl | simp [Region.wanted, yielded]); (· first | rfl | simp [Act.eval]); (· exact ⟨_, rfl, rfl⟩); (· kernel_rfl)) | ((with_reducible refine ldmg 24 (.tmp 102) p11 0 [.int .i64 st.x, .int .i64 st.y, .int .i64 st.z] RX.out ?_ ?_ ?_ ?_ ?_ ?_); (· rfl); (· first | rfl | simp [Region.wanted, yielded]); (· first | rfl | simp [Act.eval]); (· exact ⟨_, rfl, rfl⟩); (· kernel_rfl)) | (go_at_call 43; (with_reducible refine (KC.out _).mono ?_); rintro e w11 ⟨rfl, b11⟩))
        go_meet
        exact ⟨rfl, Lib.hid (Below.refl _ _)⟩
    case rest =>
      obtain ⟨rfl, b11⟩ := hcut
      rename_i hKK
      refine hKK _ _ ?_
      clear hKK RX KC c4 hr3
      have S11 := Lib.hid (S10.out.below b11.out)
      have K11 := Lib.hid (Mis.hb b11.out K10.out)
      obtain ⟨w11, rfl⟩ : ∃ z : World, z = wc := ⟨_, rfl⟩
      clear S10 K10 b11
      rename_i lv5i0 lv5i1 lv5i2 lv5i3 lv5i4 lv5i5 lv5i6 lv5i7 lv5i8 lv5i9 lv5i10 lv5i11 lv5i12 lv5i13 lv5i14 lv5i15 lv5i16 lv5i17 lv5i18 lv5i19 lv5i20 lv5i21 lv5i22 lv5i23 lv5i24 lv5i25 lv5i26 lv5i27 lv5i28 lv5i29 lv5i30 lv5i31 lv5i32 lv5i33 lv5i34 lv5i35 lv5i36 lv5i37 lv5i38 lv5i39 lv5i40 lv5i41 lv5i42 lv5i43 lv5i44 lv5i45 lv5i46 lv5i47 lv5i48 lv5i49 lv5i50 lv5i51 lv5i52 lv5i53 lv5i54 lv5i55 lv5i56 lv5i57 lv5i58 lv5i59 lv5i60 lv5i61 lv5i62 lv5i63 lv5i64 lv5i65 lv5i66 lv5i67 lv5i68 lv5i69 lv5i70 lv5i71 lv5i72 lv5i73 lv5i74 lv5i75 lv5i76 lv5i77 lv5i78 lv5i79 lv5i80 lv5i81 lv5i82 lv5i83 lv5i84 lv5i85 lv5i86 lv5i87 lv5i88 lv5i89 lv5i90 lv5i91 lv5i92 lv5i93 lv5i94 lv5i95 lv5i96 lv5i97 lv5i98 lv5i99 lv5i100 lv5i101 lv5i102
      revert w Ak R q tol t0 t9 HP FN w1 p2 p4 a2 a4 lv1i0 w2 w3 dt w5 p11 p10 lv1i1 lv1i2 wr u5 u6 u13 u14 u15 u16 u17 u18 u19 u20 u21 u22 u23 u24 lv3i0 lv3i1 lv3i2 lv3i3 lv3i4 lv3i5 lv3i6 lv3i7 lv3i8 lv3i9 lv3i10 lv3i11 lv3i12 lv3i13 lv3i14 lv3i15 lv3i16 lv3i17 lv3i18 lv5i0 lv3i19 lv3i20 lv3i21 lv3i22 lv3i23 lv3i24 lv3i25 lv3i26 lv3i27 lv3i28 lv3i29 lv3i30 lv3i31 lv3i32 lv3i33 lv3i34 lv3i35 lv3i36 lv3i37 lv3i38 lv3i39 lv3i40 lv3i41 lv3i42 lv3i43 lv3i44 lv3i45 lv3i46 lv3i47 lv3i48 lv3i49 lv3i50 lv3i51 lv3i52 lv3i53 lv3i54 lv3i55 lv3i56 lv3i57 lv3i58 lv3i59 lv3i60 lv3i61 lv3i62 lv3i63 lv3i64 lv3i65 lv3i66 lv3i67 lv3i68 lv3i69 lv3i70 lv3i71 lv3i72 lv3i73 lv3i74 lv3i75 lv3i76 lv3i77 lv3i78 lv3i79 lv3i80 lv3i81 lv3i82 lv3i83 lv3i84 lv3i85 lv3i86 lv3i87 lv3i88 lv3i89 lv3i90 lv3i91 lv3i92 lv3i93 lv3i94 lv3i95 lv3i96 lv3i97 lv3i98 lv3i99 L st nn cc RL I D M0 hL9 w4 tk tk0 m m9 m0 htk hm wc lv5i1 lv5i2 lv5i3 lv5i4 lv5i5 lv5i6 lv5i7 lv5i8 lv5i9 lv5i10 lv5i11 lv5i12 lv5i13 lv5i14 lv5i15 lv5i16 lv5i17 lv5i18 lv5i19 lv5i20 lv5i21 lv5i22 lv5i23 lv5i24 lv5i25 lv5i26 lv5i27 lv5i28 lv5i29 lv5i30 lv5i31 lv5i32 lv5i33 lv5i34 lv5i35 lv5i36 lv5i37 lv5i38 lv5i39 lv5i40 lv5i41 lv5i42 lv5i43 lv5i44 lv5i45 lv5i46 lv5i47 lv5i48 lv5i49 lv5i50 lv5i51 lv5i52 lv5i53 lv5i54 lv5i55 lv5i56 lv5i57 lv5i58 lv5i59 u107 lv5i60 lv5i61 lv5i62 lv5i63 lv5i64 lv5i65 lv5i66 lv5i67 lv5i68 lv5i69 lv5i70 lv5i71 lv5i72 lv5i73 lv5i74 lv5i75 lv5i76 lv5i77 lv5i78 lv5i79 lv5i80 lv5i81 lv5i82 lv5i83 lv5i84 lv5i85 lv5i86 lv5i87 lv5i88 lv5i89 lv5i90 lv5i91 lv5i92 lv5i93 lv5i94 lv5i95 lv5i96 lv5i97 lv5i98 lv5i99 hr h3 ht9 d3 k' F2 j hu G2 B b lv3i100 jn J J1 J2 hB hSb hct bv hl hjo hjd hJL w7 hjl2 hB2 x1 x2 x3 hxc w8 w9 p14 t1 cost g0 g9 ht1 hcost w10 lv5i100 lv5i101 lv5i102 r hcon lx hr2 u47 u48 u49 u50 u51 u52 u53 u54 u55 u56 u57 u58 u59 u60 u61 u62 u63 u64 u65 u66 u67 u68 u69 u70 u71 u72 u73 u74 u75 u76 u77 u78 u79 u80 u81 u82 u83 u84 u85 u86 u87 u88 u89 u90 u91 u92 u93 u94 u95 u96 u97 u98 u99 u100 u101 u102 u103 u104 u105 u106 u108 u109 u110 u111 u112 u113 u114 u115 u116 u117 u118 u119 u120 u121 u122 u123 u124 u125 u126 u127 u128 u129 u130 u131 u132 u133 u134 u135 u136 u137 u138 u139 u140 u141 u142 u143 u144 u145 u146 u147 w11 S11 K11
      exact hck_lv5.out
set_option maxHeartbeats 8000000 in
set_option maxRecDepth 100000 in
noncomputable def ck_lv5 : (P_lv6 : Prop) ×' (P_lv7 : Prop) ×' (Ckp P_lv6 → Ckp P_lv7 → ck_lv4.1) := by
  apply PSigma.mk
  case snd =>
    apply PSigma.mk
    case snd =>
      intro hck_lv6 hck_lv7
      intro w Ak R q tol t0 t9 HP FN w1 p2 p4 a2 a4
        lv1i0 w2 w3 dt w5 p11 p10 lv1i1 lv1i2 wr u5 u6 u13 u14
        u15 u16 u17 u18 u19 u20 u21 u22 u23 u24 lv3i0 lv3i1 lv3i2 lv3i3
        lv3i4 lv3i5 lv3i6 lv3i7 lv3i8 lv3i9 lv3i10 lv3i11 lv3i12 lv3i13 lv3i14 lv3i15 lv3i16 lv3i17
        lv3i18 lv5i0 lv3i19 lv3i20 lv3i21 lv3i22 lv3i23 lv3i24 lv3i25 lv3i26 lv3i27 lv3i28 lv3i29 lv3i30
        lv3i31 lv3i32 lv3i33 lv3i34 lv3i35 lv3i36 lv3i37 lv3i38 lv3i39 lv3i40 lv3i41 lv3i42 lv3i43 lv3i44
        lv3i45 lv3i46 lv3i47 lv3i48 lv3i49 lv3i50 lv3i51 lv3i52 lv3i53 lv3i54 lv3i55 lv3i56 lv3i57 lv3i58
        lv3i59 lv3i60 lv3i61 lv3i62 lv3i63 lv3i64 lv3i65 lv3i66 lv3i67 lv3i68 lv3i69 lv3i70 lv3i71 lv3i72
        lv3i73 lv3i74 lv3i75 lv3i76 lv3i77 lv3i78 lv3i79 lv3i80 lv3i81 lv3i82 lv3i83 lv3i84 lv3i85 lv3i86
        lv3i87 lv3i88 lv3i89 lv3i90 lv3i91 lv3i92 lv3i93 lv3i94 lv3i95 lv3i96 lv3i97 lv3i98 lv3i99 L
        st nn cc RL I D M0 hL9 w4 tk tk0 m m9 m0
        htk hm wc lv5i1 lv5i2 lv5i3 lv5i4 lv5i5 lv5i6 lv5i7 lv5i8 lv5i9 lv5i10 lv5i11
        lv5i12 lv5i13 lv5i14 lv5i15 lv5i16 lv5i17 lv5i18 lv5i19 lv5i20 lv5i21 lv5i22 lv5i23 lv5i24 lv5i25
        lv5i26 lv5i27 lv5i28 lv5i29 lv5i30 lv5i31 lv5i32 lv5i33 lv5i34 lv5i35 lv5i36 lv5i37 lv5i38 lv5i39
        lv5i40 lv5i41 lv5i42 lv5i43 lv5i44 lv5i45 lv5i46 lv5i47 lv5i48 lv5i49 lv5i50 lv5i51 lv5i52 lv5i53
        lv5i54 lv5i55 lv5i56 lv5i57 lv5i58 lv5i59 u107 lv5i60 lv5i61 lv5i62 lv5i63 lv5i64 lv5i65 lv5i66
        lv5i67 lv5i68 lv5i69 lv5i70 lv5i71 lv5i72 lv5i73 lv5i74 lv5i75 lv5i76 lv5i77 lv5i78 lv5i79 lv5i80
        lv5i81 lv5i82 lv5i83 lv5i84 lv5i85 lv5i86 lv5i87 lv5i88 lv5i89 lv5i90 lv5i91 lv5i92 lv5i93 lv5i94
        lv5i95 lv5i96 lv5i97 lv5i98 lv5i99 hr h3 ht9 d3 k' F2 j hu G2
        B b lv3i100 jn J J1 J2 hB hSb hct bv hl hjo hjd
        hJL w7 hjl2 hB2 x1 x2 x3 hxc w8 w9 p14 t1 cost g0
        g9 ht1 hcost w10 lv5i100 lv5i101 lv5i102 r hcon lx hr2 u47 u48 u49
        u50 u51 u52 u53 u54 u55 u56 u57 u58 u59 u60 u61 u62 u63
        u64 u65 u66 u67 u68 u69 u70 u71 u72 u73 u74 u75 u76 u77
        u78 u79 u80 u81 u82 u83 u84 u85 u86 u87 u88 u89 u90 u91
        u92 u93 u94 u95 u96 u97 u98 u99 u100 u101 u102 u103 u104 u105
        u106 u108 u109 u110 u111 u112 u113 u114 u115 u116 u117 u118 u119 u120
        u121 u122 u123 u124 u125 u126 u127 u128 u129 u130 u131 u132 u133 u134
        u135 u136 u137 u138 u139 u140 u141 u142 u143 u144 u145 u146 u147 w11
        S11 K11
      obtain ⟨X2, hX2⟩ : ∃ z, z = (lrow (consider Ak (first st) (cen B)) 0 ⟨0, 0, 0, 0, 0, 0⟩).toArray := ⟨_, rfl⟩
      have T0 := Lib.hid (Mid.there S11.out.loc 0 3 (show 0 + 3 ≤ 12 by decide))
      go_cut [16] (fun v16 wx => v16 = .int .i64 cost ∧ Hid (RS w p2 p4 p11 R q wx (.slice (some ⟨b, 0, none⟩) nn cc) (L.set j ⟨(gd L j).o, true⟩) X2))
      case first =>
        cases r with
        | true =>
          have hc2 := hcon.out
          rw [if_pos rfl] at hc2
          have e2 : Hid (X2 = #[.int .i64 x1, .int .i64 x2, .int .i64 x3, .int .i64 t1, .int .i64 cost, .int .i64 0, .int .i64 0, .int .i64 0, .int .i64 0, .int .i64 0, .int .i64 0, .int .i64 0]) := Lib.hid (by rw [hX2, hc2]; rfl)
          clear hc2
          replace hX2 := Lib.hid hX2
          go_wp2_with (first | ((with_reducible refine Mid.ldr 24 (.tmp 14) p14 24 #[.int .i64 x1, .int .i64 x2, .int .i64 x3] K11.out ?_ ?_ ?_ ?_ ?_ ?_); (· rfl); (· rfl); (· first | rfl | simp [Act.eval]); (· exact ⟨_, rfl, rfl⟩); (· kernel_rfl)) | (((with_reducible refine Mid.stm 24 (.tmp 111) (.tmp 108) p11 0 3 [.int .i64 x1, .int .i64 x2, .int .i64 x3] T0.out ?_ ?_ ?_ ?_ ?_ ?_ ?_ ?_); (· rfl); (· rfl); (· first | rfl | simp [Act.eval]); (· first | rfl | simp [Act.eval]); (· rfl); (· kernel_rfl); (· simp [Value.oneCell'])); (obtain ⟨wA, hwA⟩ : ∃ z, z = w11.setCells p11 0 [.int .i64 x1, .int .i64 x2, .int .i64 x3] := ⟨_, rfl⟩); rw [← hwA]; (have SA : Hid (RS w p2 p4 p11 R q wA (.slice (some ⟨b, 0, none⟩) nn cc) (L.set j ⟨(gd L j).o, true⟩) #[.int .i64 x1, .int .i64 x2, .int .i64 x3, .int .i64 st.t, .int .i64 st.m, .int .i64 0, .int .i64 0, .int .i64 0, .int .i64 0, .int .i64 0, .int .i64 0, .int .i64 0]) := Lib.hid (by rw [hwA]; exact S11.out.cells 0 _ rfl)); (have SB : Hid (RS w p2 p4 p11 R q (wA.setCell ⟨p11, 3, none⟩ (.int .i64 t1)) (.slice (some ⟨b, 0, none⟩) nn cc) (L.set j ⟨(gd L j).o, true⟩) #[.int .i64 x1, .int .i64 x2, .int .i64 x3, .int .i64 t1, .int .i64 st.m, .int .i64 0, .int .i64 0, .int .i64 0, .int .i64 0, .int .i64 0, .int .i64 0, .int .i64 0]) := Lib.hid (SA.out.cell 3 _ rfl)); (have c3 : wA.cell? ⟨p11, 3, none⟩ = some (.int .i64 st.t) := cell_of_row wA p11 3 _ _ _ SA.out.loc); (have f3 := frozen_of_row wA p11 3 _ _ SA.out.loc); (have c4 : (wA.setCell ⟨p11, 3, none⟩ (.int .i64 t1)).cell? ⟨p11, 4, none⟩ = some (.int .i64 st.m) := cell_of_row _ p11 4 _ _ _ SB.out.loc); (have f4 := frozen_of_row (wA.setCell ⟨p11, 3, none⟩ (.int .i64 t1)) p11 4 _ _ SB.out.loc); clear hwA))
          go_meet
          exact ⟨rfl, Lib.hid (by rw [e2.out]; exact SB.out.cell 4 _ rfl)⟩
        | false =>
          have hc2 := hcon.out
          rw [if_neg (by simp)] at hc2
          have e2 : Hid (X2 = (lrow st 0 ⟨0, 0, 0, 0, 0, 0⟩).toArray) := Lib.hid (by rw [hX2, hc2]; rfl)
          clear hc2
          replace hX2 := Lib.hid hX2
          go_wp2_with fail
          go_meet
          exact ⟨rfl, Lib.hid (by rw [e2.out]; exact S11.out)⟩
      case rest =>
        obtain ⟨rfl, S12⟩ := hcut
        replace hX2 := Lib.hid hX2
        clear S11 K11 T0 hcon hr2
        obtain ⟨w12, rfl⟩ : ∃ z : World, z = wc := ⟨_, rfl⟩
        have etk : tk + 1 = (take Ak st).tk := by rw [J1.out, htk.out]
        have hD : Hid ((take Ak st).fd = decide (0 < (take Ak st).tk)) := Lib.hid (by rw [J2.out, ← etk, decide_eq_true (by omega)])
        have hM : Hid ((take Ak st).fd = true ∨ (take Ak st).m = 0) := Lib.hid (.inl J2.out)
        replace etk := Lib.hid etk
        have tk9 : tk ≤ 2999 := by rw [htk.out]; exact ht9
        have RBX := Lib.hid (OwnD.box S12.out.own hjl2.out hB2.out)
        cases hone : one B with
        | true =>
          rename_i lv6i0 lv6i1 lv6i2 lv6i3 lv6i4 lv6i5 lv6i6 lv6i7 lv6i8 lv6i9 lv6i10 lv6i11 lv6i12 lv6i13 lv6i14 lv6i15 lv6i16 lv6i17 lv6i18 lv6i19 lv6i20 lv6i21 lv6i22 lv6i23 lv6i24 lv6i25 lv6i26 lv6i27 lv6i28 lv6i29 lv6i30 lv6i31 lv6i32 lv6i33 lv6i34 lv6i35 lv6i36 lv6i37 lv6i38 lv6i39 lv6i40 lv6i41 lv6i42 lv6i43 lv6i44 lv6i45 lv6i46 lv6i47 lv6i48 lv6i49 lv6i50 lv6i51 lv6i52 lv6i53 lv6i54 lv6i55 lv6i56 lv6i57 lv6i58 lv6i59 lv6i60 lv6i61 lv6i62 lv6i63 lv6i64 lv6i65 lv6i66 lv6i67 lv6i68 lv6i69 lv6i70 lv6i71 lv6i72 lv6i73 lv6i74 lv6i75 lv6i76 lv6i77 lv6i78 lv6i79 lv6i80 lv6i81 lv6i82 lv6i83 lv6i84 lv6i85 lv6i86 lv6i87 lv6i88 lv6i89 lv6i90 lv6i91 lv6i92 lv6i93 lv6i94 lv6i95 lv6i96 lv6i97 lv6i98 lv6i99 lv6i100
          revert w Ak R q tol t0 t9 HP FN w1 p2 p4 a2 a4 lv1i0 w2 w3 dt w5 p11 p10 lv1i1 lv1i2 wr u5 u6 u13 u14 u15 u16 u17 u18 u19 u20 u21 u22 u23 u24 lv3i0 lv3i1 lv3i2 lv3i3 lv3i4 lv3i5 lv3i6 lv3i7 lv3i8 lv3i9 lv3i10 lv3i11 lv3i12 lv3i13 lv3i14 lv3i15 lv3i16 lv3i17 lv3i18 lv5i0 lv3i19 lv3i20 lv3i21 lv3i22 lv3i23 lv3i24 lv3i25 lv3i26 lv3i27 lv3i28 lv3i29 lv3i30 lv3i31 lv3i32 lv3i33 lv3i34 lv3i35 lv3i36 lv3i37 lv3i38 lv3i39 lv3i40 lv3i41 lv3i42 lv3i43 lv3i44 lv3i45 lv3i46 lv3i47 lv3i48 lv3i49 lv3i50 lv3i51 lv3i52 lv3i53 lv3i54 lv3i55 lv3i56 lv3i57 lv3i58 lv3i59 lv3i60 lv3i61 lv3i62 lv3i63 lv3i64 lv3i65 lv3i66 lv3i67 lv3i68 lv3i69 lv3i70 lv3i71 lv3i72 lv3i73 lv3i74 lv3i75 lv3i76 lv3i77 lv3i78 lv3i79 lv3i80 lv3i81 lv3i82 lv3i83 lv3i84 lv3i85 lv3i86 lv3i87 lv3i88 lv3i89 lv3i90 lv3i91 lv3i92 lv3i93 lv3i94 lv3i95 lv3i96 lv3i97 lv3i98 lv3i99 L st nn cc RL I D M0 hL9 w4 tk tk0 m m9 m0 htk hm wc lv5i1 lv5i2 lv5i3 lv5i4 lv5i5 lv5i6 lv5i7 lv5i8 lv5i9 lv5i10 lv5i11 lv5i12 lv5i13 lv5i14 lv5i15 lv5i16 lv5i17 lv5i18 lv5i19 lv5i20 lv5i21 lv5i22 lv5i23 lv5i24 lv5i25 lv5i26 lv5i27 lv5i28 lv5i29 lv5i30 lv5i31 lv5i32 lv5i33 lv5i34 lv5i35 lv5i36 lv5i37 lv5i38 lv5i39 lv5i40 lv5i41 lv5i42 lv5i43 lv5i44 lv5i45 lv5i46 lv5i47 lv5i48 lv5i49 lv5i50 lv5i51 lv5i52 lv5i53 lv5i54 lv5i55 lv5i56 lv5i57 lv5i58 lv5i59 lv6i0 lv5i60 lv5i61 lv5i62 lv5i63 lv5i64 lv5i65 lv5i66 lv5i67 lv5i68 lv5i69 lv5i70 lv5i71 lv5i72 lv5i73 lv5i74 lv5i75 lv5i76 lv5i77 lv5i78 lv5i79 lv5i80 lv5i81 lv5i82 lv5i83 lv5i84 lv5i85 lv5i86 lv5i87 lv5i88 lv5i89 lv5i90 lv5i91 lv5i92 lv5i93 lv5i94 lv5i95 lv5i96 lv5i97 lv5i98 lv5i99 hr h3 ht9 d3 k' F2 j hu G2 B b lv3i100 jn J J1 J2 hB hSb hct bv hl hjo hjd hJL w7 hjl2 hB2 x1 x2 x3 hxc w8 w9 p14 t1 cost g0 g9 ht1 hcost w10 lv5i100 lv5i101 lv5i102 r lx lv6i1 lv6i2 lv6i3 lv6i4 lv6i5 lv6i6 lv6i7 lv6i8 lv6i9 lv6i10 lv6i11 lv6i12 lv6i13 lv6i14 lv6i15 lv6i16 lv6i17 lv6i18 lv6i19 lv6i20 lv6i21 lv6i22 lv6i23 lv6i24 lv6i25 lv6i26 lv6i27 lv6i28 lv6i29 lv6i30 lv6i31 lv6i32 lv6i33 lv6i34 lv6i35 lv6i36 lv6i37 lv6i38 lv6i39 lv6i40 lv6i41 lv6i42 lv6i43 lv6i44 lv6i45 lv6i46 lv6i47 lv6i48 lv6i49 lv6i50 lv6i51 lv6i52 lv6i53 lv6i54 lv6i55 lv6i56 lv6i57 lv6i58 lv6i59 lv6i60 lv6i61 lv6i62 lv6i63 lv6i64 lv6i65 lv6i66 lv6i67 lv6i68 lv6i69 lv6i70 lv6i71 lv6i72 lv6i73 lv6i74 lv6i75 lv6i76 lv6i77 lv6i78 lv6i79 lv6i80 lv6i81 lv6i82 lv6i83 lv6i84 lv6i85 lv6i86 lv6i87 lv6i88 lv6i89 lv6i90 lv6i91 lv6i92 lv6i93 lv6i94 lv6i95 lv6i96 lv6i97 lv6i98 lv6i99 lv6i100 w11 X2 u47 u48 u49 u50 u51 u52 u53 u54 u55 u56 u57 u58 u59 u60 u61 u62 u63 u64 u65 u66 u67 u68 u69 u70 u71 u72 u73 u74 u75 u76 u77 u78 u79 u80 u81 u82 u83 u84 u85 u86 u87 u88 u89 u90 u91 u92 u93 u94 u95 u96 u97 u98 u99 u100 u101 u102 u103 u104 u105 u106 u107 u108 u109 u110 u111 u112 u113 u114 u115 u116 u117 u118 u119 u120 u121 u122 u123 u124 u125 u126 u127 u128 u129 u130 u131 u132 u133 u134 u135 u136 u137 u138 u139 u140 u141 u142 u143 u144 u145 u146 u147 hX2 w12 S12 hD hM etk tk9 RBX hone
          exact hck_lv6.out
        | false =>
          rename_i lv7i0 lv7i1 lv7i2 lv7i3 lv7i4 lv7i5 lv7i6 lv7i7 lv7i8 lv7i9 lv7i10 lv7i11 lv7i12 lv7i13 lv7i14 lv7i15 lv7i16 lv7i17 lv7i18 lv7i19 lv7i20 lv7i21 lv7i22 lv7i23 lv7i24 lv7i25 lv7i26 lv7i27 lv7i28 lv7i29 lv7i30 lv7i31 lv7i32 lv7i33 lv7i34 lv7i35 lv7i36 lv7i37 lv7i38 lv7i39 lv7i40 lv7i41 lv7i42 lv7i43 lv7i44 lv7i45 lv7i46 lv7i47 lv7i48 lv7i49 lv7i50 lv7i51 lv7i52 lv7i53 lv7i54 lv7i55 lv7i56 lv7i57 lv7i58 lv7i59 lv7i60 lv7i61 lv7i62 lv7i63 lv7i64 lv7i65 lv7i66 lv7i67 lv7i68 lv7i69 lv7i70 lv7i71 lv7i72 lv7i73 lv7i74 lv7i75 lv7i76 lv7i77 lv7i78 lv7i79 lv7i80 lv7i81 lv7i82 lv7i83 lv7i84 lv7i85 lv7i86 lv7i87 lv7i88 lv7i89 lv7i90 lv7i91 lv7i92 lv7i93 lv7i94 lv7i95 lv7i96 lv7i97 lv7i98 lv7i99 lv7i100
          revert w Ak R q tol t0 t9 HP FN w1 p2 p4 a2 a4 lv1i0 w2 w3 dt w5 p11 p10 lv1i1 lv1i2 wr u5 u6 u13 u14 u15 u16 u17 u18 u19 u20 u21 u22 u23 u24 lv3i0 lv3i1 lv3i2 lv3i3 lv3i4 lv3i5 lv3i6 lv3i7 lv3i8 lv3i9 lv3i10 lv3i11 lv3i12 lv3i13 lv3i14 lv3i15 lv3i16 lv3i17 lv3i18 lv5i0 lv3i19 lv3i20 lv3i21 lv3i22 lv3i23 lv3i24 lv3i25 lv3i26 lv3i27 lv3i28 lv3i29 lv3i30 lv3i31 lv3i32 lv3i33 lv3i34 lv3i35 lv3i36 lv3i37 lv3i38 lv3i39 lv3i40 lv3i41 lv3i42 lv3i43 lv3i44 lv3i45 lv3i46 lv3i47 lv3i48 lv3i49 lv3i50 lv3i51 lv3i52 lv3i53 lv3i54 lv3i55 lv3i56 lv3i57 lv3i58 lv3i59 lv3i60 lv3i61 lv3i62 lv3i63 lv3i64 lv3i65 lv3i66 lv3i67 lv3i68 lv3i69 lv3i70 lv3i71 lv3i72 lv3i73 lv3i74 lv3i75 lv3i76 lv3i77 lv3i78 lv3i79 lv3i80 lv3i81 lv3i82 lv3i83 lv3i84 lv3i85 lv3i86 lv3i87 lv3i88 lv3i89 lv3i90 lv3i91 lv3i92 lv3i93 lv3i94 lv3i95 lv3i96 lv3i97 lv3i98 lv3i99 L st nn cc RL I D M0 hL9 w4 tk tk0 m m9 m0 htk hm wc lv5i1 lv5i2 lv5i3 lv5i4 lv5i5 lv5i6 lv5i7 lv5i8 lv5i9 lv5i10 lv5i11 lv5i12 lv5i13 lv5i14 lv5i15 lv5i16 lv5i17 lv5i18 lv5i19 lv5i20 lv5i21 lv5i22 lv5i23 lv5i24 lv5i25 lv5i26 lv5i27 lv5i28 lv5i29 lv5i30 lv5i31 lv5i32 lv5i33 lv5i34 lv5i35 lv5i36 lv5i37 lv5i38 lv5i39 lv5i40 lv5i41 lv5i42 lv5i43 lv5i44 lv5i45 lv5i46 lv5i47 lv5i48 lv5i49 lv5i50 lv5i51 lv5i52 lv5i53 lv5i54 lv5i55 lv5i56 lv5i57 lv5i58 lv5i59 lv7i0 lv5i60 lv5i61 lv5i62 lv5i63 lv5i64 lv5i65 lv5i66 lv5i67 lv5i68 lv5i69 lv5i70 lv5i71 lv5i72 lv5i73 lv5i74 lv5i75 lv5i76 lv5i77 lv5i78 lv5i79 lv5i80 lv5i81 lv5i82 lv5i83 lv5i84 lv5i85 lv5i86 lv5i87 lv5i88 lv5i89 lv5i90 lv5i91 lv5i92 lv5i93 lv5i94 lv5i95 lv5i96 lv5i97 lv5i98 lv5i99 hr h3 ht9 d3 k' F2 j hu G2 B b lv3i100 jn J J1 J2 hB hSb hct bv hl hjo hjd hJL w7 hjl2 hB2 x1 x2 x3 hxc w8 w9 p14 t1 cost g0 g9 ht1 hcost w10 lv5i100 lv5i101 lv5i102 r lx lv7i1 lv7i2 lv7i3 lv7i4 lv7i5 lv7i6 lv7i7 lv7i8 lv7i9 lv7i10 lv7i11 lv7i12 lv7i13 lv7i14 lv7i15 lv7i16 lv7i17 lv7i18 lv7i19 lv7i20 lv7i21 lv7i22 lv7i23 lv7i24 lv7i25 lv7i26 lv7i27 lv7i28 lv7i29 lv7i30 lv7i31 lv7i32 lv7i33 lv7i34 lv7i35 lv7i36 lv7i37 lv7i38 lv7i39 lv7i40 lv7i41 lv7i42 lv7i43 lv7i44 lv7i45 lv7i46 lv7i47 lv7i48 lv7i49 lv7i50 lv7i51 lv7i52 lv7i53 lv7i54 lv7i55 lv7i56 lv7i57 lv7i58 lv7i59 lv7i60 lv7i61 lv7i62 lv7i63 lv7i64 lv7i65 lv7i66 lv7i67 lv7i68 lv7i69 lv7i70 lv7i71 lv7i72 lv7i73 lv7i74 lv7i75 lv7i76 lv7i77 lv7i78 lv7i79 lv7i80 lv7i81 lv7i82 lv7i83 lv7i84 lv7i85 lv7i86 lv7i87 lv7i88 lv7i89 lv7i90 lv7i91 lv7i92 lv7i93 lv7i94 lv7i95 lv7i96 lv7i97 lv7i98 lv7i99 lv7i100 w11 X2 u47 u48 u49 u50 u51 u52 u53 u54 u55 u56 u57 u58 u59 u60 u61 u62 u63 u64 u65 u66 u67 u68 u69 u70 u71 u72 u73 u74 u75 u76 u77 u78 u79 u80 u81 u82 u83 u84 u85 u86 u87 u88 u89 u90 u91 u92 u93 u94 u95 u96 u97 u98 u99 u100 u101 u102 u103 u104 u105 u106 u107 u108 u109 u110 u111 u112 u113 u114 u115 u116 u117 u118 u119 u120 u121 u122 u123 u124 u125 u126 u127 u128 u129 u130 u131 u132 u133 u134 u135 u136 u137 u138 u139 u140 u141 u142 u143 u144 u145 u146 u147 hX2 w12 S12 hD hM etk tk9 RBX hone
          exact hck_lv7.out
set_option maxHeartbeats 8000000 in
set_option maxRecDepth 100000 in
theorem ck_lv6 : ck_lv5.1 := by
  intro w Ak R q tol t0 t9 HP FN w1 p2 p4 a2 a4
    lv1i0 w2 w3 dt w5 p11 p10 lv1i1 lv1i2 wr u5 u6 u13 u14
    u15 u16 u17 u18 u19 u20 u21 u22 u23 u24 lv3i0 lv3i1 lv3i2 lv3i3
    lv3i4 lv3i5 lv3i6 lv3i7 lv3i8 lv3i9 lv3i10 lv3i11 lv3i12 lv3i13 lv3i14 lv3i15 lv3i16 lv3i17
    lv3i18 lv5i0 lv3i19 lv3i20 lv3i21 lv3i22 lv3i23 lv3i24 lv3i25 lv3i26 lv3i27 lv3i28 lv3i29 lv3i30
    lv3i31 lv3i32 lv3i33 lv3i34 lv3i35 lv3i36 lv3i37 lv3i38 lv3i39 lv3i40 lv3i41 lv3i42 lv3i43 lv3i44
    lv3i45 lv3i46 lv3i47 lv3i48 lv3i49 lv3i50 lv3i51 lv3i52 lv3i53 lv3i54 lv3i55 lv3i56 lv3i57 lv3i58
    lv3i59 lv3i60 lv3i61 lv3i62 lv3i63 lv3i64 lv3i65 lv3i66 lv3i67 lv3i68 lv3i69 lv3i70 lv3i71 lv3i72
    lv3i73 lv3i74 lv3i75 lv3i76 lv3i77 lv3i78 lv3i79 lv3i80 lv3i81 lv3i82 lv3i83 lv3i84 lv3i85 lv3i86
    lv3i87 lv3i88 lv3i89 lv3i90 lv3i91 lv3i92 lv3i93 lv3i94 lv3i95 lv3i96 lv3i97 lv3i98 lv3i99 L
    st nn cc RL I D M0 hL9 w4 tk tk0 m m9 m0
    htk hm wc lv5i1 lv5i2 lv5i3 lv5i4 lv5i5 lv5i6 lv5i7 lv5i8 lv5i9 lv5i10 lv5i11
    lv5i12 lv5i13 lv5i14 lv5i15 lv5i16 lv5i17 lv5i18 lv5i19 lv5i20 lv5i21 lv5i22 lv5i23 lv5i24 lv5i25
    lv5i26 lv5i27 lv5i28 lv5i29 lv5i30 lv5i31 lv5i32 lv5i33 lv5i34 lv5i35 lv5i36 lv5i37 lv5i38 lv5i39
    lv5i40 lv5i41 lv5i42 lv5i43 lv5i44 lv5i45 lv5i46 lv5i47 lv5i48 lv5i49 lv5i50 lv5i51 lv5i52 lv5i53
    lv5i54 lv5i55 lv5i56 lv5i57 lv5i58 lv5i59 lv6i0 lv5i60 lv5i61 lv5i62 lv5i63 lv5i64 lv5i65 lv5i66
    lv5i67 lv5i68 lv5i69 lv5i70 lv5i71 lv5i72 lv5i73 lv5i74 lv5i75 lv5i76 lv5i77 lv5i78 lv5i79 lv5i80
    lv5i81 lv5i82 lv5i83 lv5i84 lv5i85 lv5i86 lv5i87 lv5i88 lv5i89 lv5i90 lv5i91 lv5i92 lv5i93 lv5i94
    lv5i95 lv5i96 lv5i97 lv5i98 lv5i99 hr h3 ht9 d3 k' F2 j hu G2
    B b lv3i100 jn J J1 J2 hB hSb hct bv hl hjo hjd
    hJL w7 hjl2 hB2 x1 x2 x3 hxc w8 w9 p14 t1 cost g0
    g9 ht1 hcost w10 lv5i100 lv5i101 lv5i102 r lx lv6i1 lv6i2 lv6i3 lv6i4 lv6i5
    lv6i6 lv6i7 lv6i8 lv6i9 lv6i10 lv6i11 lv6i12 lv6i13 lv6i14 lv6i15 lv6i16 lv6i17 lv6i18 lv6i19
    lv6i20 lv6i21 lv6i22 lv6i23 lv6i24 lv6i25 lv6i26 lv6i27 lv6i28 lv6i29 lv6i30 lv6i31 lv6i32 lv6i33
    lv6i34 lv6i35 lv6i36 lv6i37 lv6i38 lv6i39 lv6i40 lv6i41 lv6i42 lv6i43 lv6i44 lv6i45 lv6i46 lv6i47
    lv6i48 lv6i49 lv6i50 lv6i51 lv6i52 lv6i53 lv6i54 lv6i55 lv6i56 lv6i57 lv6i58 lv6i59 lv6i60 lv6i61
    lv6i62 lv6i63 lv6i64 lv6i65 lv6i66 lv6i67 lv6i68 lv6i69 lv6i70 lv6i71 lv6i72 lv6i73 lv6i74 lv6i75
    lv6i76 lv6i77 lv6i78 lv6i79 lv6i80 lv6i81 lv6i82 lv6i83 lv6i84 lv6i85 lv6i86 lv6i87 lv6i88 lv6i89
    lv6i90 lv6i91 lv6i92 lv6i93 lv6i94 lv6i95 lv6i96 lv6i97 lv6i98 lv6i99 lv6i100 w11 X2 u47
    u48 u49 u50 u51 u52 u53 u54 u55 u56 u57 u58 u59 u60 u61
    u62 u63 u64 u65 u66 u67 u68 u69 u70 u71 u72 u73 u74 u75
    u76 u77 u78 u79 u80 u81 u82 u83 u84 u85 u86 u87 u88 u89
    u90 u91 u92 u93 u94 u95 u96 u97 u98 u99 u100 u101 u102 u103
    u104 u105 u106 u107 u108 u109 u110 u111 u112 u113 u114 u115 u116 u117
    u118 u119 u120 u121 u122 u123 u124 u125 u126 u127 u128 u129 u130 u131
    u132 u133 u134 u135 u136 u137 u138 u139 u140 u141 u142 u143 u144 u145
    u146 u147 hX2 w12 S12 hD hM etk tk9 RBX hone
  have SN := Lib.hid fun w' => rsplit_one (R := R) bv.out hone w'
  obtain ⟨eT, RT⟩ := step_one (C := Ak) RL.out I.out.heap hu.out.symm (by rw [← hB.out]; exact hone)
  have eX : Hid (X2 = (lrow (take Ak st) 0 ⟨0, 0, 0, 0, 0, 0⟩).toArray) := Lib.hid (by rw [hX2.out, eT, hB.out])
  replace RT := Lib.hid RT
  clear eT
  replace hone := Lib.hid hone
  go_upto_region 21 with (first | ((with_reducible refine Mid.ldm 26 (.tmp 120) b (j * 8) (box6 B) RBX.out ?_ ?_ ?_ ?_ ?_ ?_); (· rfl); (· rfl); (· first | rfl | simp [Act.eval]); (· exact ⟨_, rfl, rfl⟩); (· kernel_rfl)) | (go_at_call 44; refine (SN.out _).mono ?_; rintro e w13 ⟨rfl, b13⟩; have S13 := Lib.hid (S12.out.below b13); have A1 := Lib.hid (Geo.blk_alloc (Geo.blk_new w13 (.cells #[.int .i64 0, .int .i64 0, .int .i64 0, .int .i64 0, .int .i64 0, .int .i64 0] 26)) (.cells #[.int .i64 0, .int .i64 0, .int .i64 0, .int .i64 0, .int .i64 0, .int .i64 0] 26)); have A3 : Hid ((((w13.alloc (.cells #[.int .i64 0, .int .i64 0, .int .i64 0, .int .i64 0, .int .i64 0, .int .i64 0] 26)).alloc (.cells #[.int .i64 0, .int .i64 0, .int .i64 0, .int .i64 0, .int .i64 0, .int .i64 0] 26)).setRow w13.heap.size #[.int .i64 0, .int .i64 0, .int .i64 0, .int .i64 0, .int .i64 0, .int .i64 0]).heap[w13.heap.size + 1]? = some (.cells #[.int .i64 0, .int .i64 0, .int .i64 0, .int .i64 0, .int .i64 0, .int .i64 0] 26 (0, 0))) := Lib.hid ((setRow_other _ _ _ _ (by omega)).trans (Geo.blk_new1 w13 _ _)); clear b13) | ((with_reducible refine Mid.str 26 (.tmp 18) (.tmp 123) w13.heap.size 26 #[.int .i64 0, .int .i64 0, .int .i64 0, .int .i64 0, .int .i64 0, .int .i64 0] #[.int .i64 0, .int .i64 0, .int .i64 0, .int .i64 0, .int .i64 0, .int .i64 0] A1.out ?_ ?_ ?_ ?_ ?_ ?_ ?_ ?_); (· rfl); (· rfl); (· first | rfl | simp [Act.eval]); (· first | rfl | simp [Act.eval]); (· kernel_rfl); (· rfl); (· simp [Value.oneCell'])) | ((with_reducible refine Mid.str 26 (.tmp 19) (.tmp 124) (w13.heap.size + 1) 26 #[.int .i64 0, .int .i64 0, .int .i64 0, .int .i64 0, .int .i64 0, .int .i64 0] #[.int .i64 0, .int .i64 0, .int .i64 0, .int .i64 0, .int .i64 0, .int .i64 0] A3.out ?_ ?_ ?_ ?_ ?_ ?_ ?_ ?_); (· rfl); (· rfl); (· first | rfl | simp [Act.eval]); (· first | rfl | simp [Act.eval]); (· kernel_rfl); (· rfl); (· simp [Value.oneCell'])))
  try simp only [Act.put]
  have N14 : Below w13.heap.size w13 ((((w13.alloc (.cells #[.int .i64 0, .int .i64 0, .int .i64 0, .int .i64 0, .int .i64 0, .int .i64 0] 26)).alloc (.cells #[.int .i64 0, .int .i64 0, .int .i64 0, .int .i64 0, .int .i64 0, .int .i64 0] 26)).setRow w13.heap.size #[.int .i64 0, .int .i64 0, .int .i64 0, .int .i64 0, .int .i64 0, .int .i64 0]).setRow (w13.heap.size + 1) #[.int .i64 0, .int .i64 0, .int .i64 0, .int .i64 0, .int .i64 0, .int .i64 0]) := Mid.below_row (Mid.below_row (Buf.then_ (Mis.new_block _) (Mis.new_block _)) _ _ (Nat.le_refl _)) _ _ (by omega)
  have S14 := Lib.hid (S13.out.below N14)
  obtain ⟨w14, hw14⟩ : ∃ z, z = (((w13.alloc (.cells #[.int .i64 0, .int .i64 0, .int .i64 0, .int .i64 0, .int .i64 0, .int .i64 0] 26)).alloc (.cells #[.int .i64 0, .int .i64 0, .int .i64 0, .int .i64 0, .int .i64 0, .int .i64 0] 26)).setRow w13.heap.size #[.int .i64 0, .int .i64 0, .int .i64 0, .int .i64 0, .int .i64 0, .int .i64 0]).setRow (w13.heap.size + 1) #[.int .i64 0, .int .i64 0, .int .i64 0, .int .i64 0, .int .i64 0, .int .i64 0] := ⟨_, rfl⟩
  rw [← hw14] at S14 ⊢
  clear hw14 N14 A1 A3 S12 S13 RBX SN
  go_wp2_with fail
  go_roundw
  case rel => exact ⟨k', (L.set j ⟨(gd L j).o, true⟩), take Ak st, _, _, _, rfl, by rw [etk.out], Lib.hid (by rw [← eX.out]; exact S14.out), RT, J, G2, F2, hD, hM⟩
  case measure => have := htk.out; simp [intOf]; omega
set_option maxHeartbeats 8000000 in
set_option maxRecDepth 100000 in
theorem ck_lv7 : ck_lv5.2.1 := by
  intro w Ak R q tol t0 t9 HP FN w1 p2 p4 a2 a4
    lv1i0 w2 w3 dt w5 p11 p10 lv1i1 lv1i2 wr u5 u6 u13 u14
    u15 u16 u17 u18 u19 u20 u21 u22 u23 u24 lv3i0 lv3i1 lv3i2 lv3i3
    lv3i4 lv3i5 lv3i6 lv3i7 lv3i8 lv3i9 lv3i10 lv3i11 lv3i12 lv3i13 lv3i14 lv3i15 lv3i16 lv3i17
    lv3i18 lv5i0 lv3i19 lv3i20 lv3i21 lv3i22 lv3i23 lv3i24 lv3i25 lv3i26 lv3i27 lv3i28 lv3i29 lv3i30
    lv3i31 lv3i32 lv3i33 lv3i34 lv3i35 lv3i36 lv3i37 lv3i38 lv3i39 lv3i40 lv3i41 lv3i42 lv3i43 lv3i44
    lv3i45 lv3i46 lv3i47 lv3i48 lv3i49 lv3i50 lv3i51 lv3i52 lv3i53 lv3i54 lv3i55 lv3i56 lv3i57 lv3i58
    lv3i59 lv3i60 lv3i61 lv3i62 lv3i63 lv3i64 lv3i65 lv3i66 lv3i67 lv3i68 lv3i69 lv3i70 lv3i71 lv3i72
    lv3i73 lv3i74 lv3i75 lv3i76 lv3i77 lv3i78 lv3i79 lv3i80 lv3i81 lv3i82 lv3i83 lv3i84 lv3i85 lv3i86
    lv3i87 lv3i88 lv3i89 lv3i90 lv3i91 lv3i92 lv3i93 lv3i94 lv3i95 lv3i96 lv3i97 lv3i98 lv3i99 L
    st nn cc RL I D M0 hL9 w4 tk tk0 m m9 m0
    htk hm wc lv5i1 lv5i2 lv5i3 lv5i4 lv5i5 lv5i6 lv5i7 lv5i8 lv5i9 lv5i10 lv5i11
    lv5i12 lv5i13 lv5i14 lv5i15 lv5i16 lv5i17 lv5i18 lv5i19 lv5i20 lv5i21 lv5i22 lv5i23 lv5i24 lv5i25
    lv5i26 lv5i27 lv5i28 lv5i29 lv5i30 lv5i31 lv5i32 lv5i33 lv5i34 lv5i35 lv5i36 lv5i37 lv5i38 lv5i39
    lv5i40 lv5i41 lv5i42 lv5i43 lv5i44 lv5i45 lv5i46 lv5i47 lv5i48 lv5i49 lv5i50 lv5i51 lv5i52 lv5i53
    lv5i54 lv5i55 lv5i56 lv5i57 lv5i58 lv5i59 lv7i0 lv5i60 lv5i61 lv5i62 lv5i63 lv5i64 lv5i65 lv5i66
    lv5i67 lv5i68 lv5i69 lv5i70 lv5i71 lv5i72 lv5i73 lv5i74 lv5i75 lv5i76 lv5i77 lv5i78 lv5i79 lv5i80
    lv5i81 lv5i82 lv5i83 lv5i84 lv5i85 lv5i86 lv5i87 lv5i88 lv5i89 lv5i90 lv5i91 lv5i92 lv5i93 lv5i94
    lv5i95 lv5i96 lv5i97 lv5i98 lv5i99 hr h3 ht9 d3 k' F2 j hu G2
    B b lv3i100 jn J J1 J2 hB hSb hct bv hl hjo hjd
    hJL w7 hjl2 hB2 x1 x2 x3 hxc w8 w9 p14 t1 cost g0
    g9 ht1 hcost w10 lv5i100 lv5i101 lv5i102 r lx lv7i1 lv7i2 lv7i3 lv7i4 lv7i5
    lv7i6 lv7i7 lv7i8 lv7i9 lv7i10 lv7i11 lv7i12 lv7i13 lv7i14 lv7i15 lv7i16 lv7i17 lv7i18 lv7i19
    lv7i20 lv7i21 lv7i22 lv7i23 lv7i24 lv7i25 lv7i26 lv7i27 lv7i28 lv7i29 lv7i30 lv7i31 lv7i32 lv7i33
    lv7i34 lv7i35 lv7i36 lv7i37 lv7i38 lv7i39 lv7i40 lv7i41 lv7i42 lv7i43 lv7i44 lv7i45 lv7i46 lv7i47
    lv7i48 lv7i49 lv7i50 lv7i51 lv7i52 lv7i53 lv7i54 lv7i55 lv7i56 lv7i57 lv7i58 lv7i59 lv7i60 lv7i61
    lv7i62 lv7i63 lv7i64 lv7i65 lv7i66 lv7i67 lv7i68 lv7i69 lv7i70 lv7i71 lv7i72 lv7i73 lv7i74 lv7i75
    lv7i76 lv7i77 lv7i78 lv7i79 lv7i80 lv7i81 lv7i82 lv7i83 lv7i84 lv7i85 lv7i86 lv7i87 lv7i88 lv7i89
    lv7i90 lv7i91 lv7i92 lv7i93 lv7i94 lv7i95 lv7i96 lv7i97 lv7i98 lv7i99 lv7i100 w11 X2 u47
    u48 u49 u50 u51 u52 u53 u54 u55 u56 u57 u58 u59 u60 u61
    u62 u63 u64 u65 u66 u67 u68 u69 u70 u71 u72 u73 u74 u75
    u76 u77 u78 u79 u80 u81 u82 u83 u84 u85 u86 u87 u88 u89
    u90 u91 u92 u93 u94 u95 u96 u97 u98 u99 u100 u101 u102 u103
    u104 u105 u106 u107 u108 u109 u110 u111 u112 u113 u114 u115 u116 u117
    u118 u119 u120 u121 u122 u123 u124 u125 u126 u127 u128 u129 u130 u131
    u132 u133 u134 u135 u136 u137 u138 u139 u140 u141 u142 u143 u144 u145
    u146 u147 hX2 w12 S12 hD hM etk tk9 RBX hone
  obtain ⟨B1, hB1⟩ : ∃ z, z = (Ak.S B).1 := ⟨_, rfl⟩
  obtain ⟨B2, hB2'⟩ : ∃ z, z = (Ak.S B).2 := ⟨_, rfl⟩
  have SN : Hid (∀ w' : World, Calls Try.prog 44 #[.agg (box6 B).toArray] w' fun e w'' => e = .returned (.tuple #[.agg #[.int .i64 B1.a, .int .i64 B1.b, .int .i64 B1.c, .int .i64 B1.d, .int .i64 B1.e, .int .i64 B1.f], .agg #[.int .i64 B2.a, .int .i64 B2.b, .int .i64 B2.c, .int .i64 B2.d, .int .i64 B2.e, .int .i64 B2.f], .bool true]) ∧ Below w'.heap.size w' w'') := Lib.hid fun w' => by
    have := HP.out.sp B hSb.out hone w'
    rw [← hB1, ← hB2'] at this
    exact this
  obtain ⟨sb1, sb2, _, _⟩ := HP.out.good.sp B hSb.out hone
  rw [← hB1] at sb1
  rw [← hB2'] at sb2
  replace sb1 := Lib.hid (hSb.out.trans sb1)
  replace sb2 := Lib.hid (hSb.out.trans sb2)
  obtain ⟨k1, k2, k3, k4, k5, RT⟩ := step_two (C := Ak) RL.out I.out.heap hu.out.symm (by rw [← hB.out]; exact hone) hB.out hB1 hB2'
  have eX : Hid (X2 = (lrow (take Ak st) 0 ⟨0, 0, 0, 0, 0, 0⟩).toArray) := Lib.hid (by rw [hX2.out]; unfold lrow; rw [k1, k2, k3, k4, k5])
  replace RT := Lib.hid RT
  obtain ⟨F1, hF1⟩ : ∃ z, z = Ak.F B1 := ⟨_, rfl⟩
  obtain ⟨F22, hF2⟩ : ∃ z, z = Ak.F B2 := ⟨_, rfl⟩
  have BD1 : Hid (∀ w', Below w.heap.size w w' → Calls Try.prog 40 #[.agg #[.int .i64 R.a, .int .i64 R.b, .int .i64 R.c, .int .i64 R.d, .int .i64 R.e, .int .i64 R.f, .int .i64 q.s, .slice (some ⟨q.b1, 0, none⟩) q.n q.c1, .slice (some ⟨q.b2, 0, none⟩) q.n2 q.c2, .slice (some ⟨q.gp, 0, none⟩) q.nl q.cc, .int .i64 q.cap], .agg #[.int .i64 B1.a, .int .i64 B1.b, .int .i64 B1.c, .int .i64 B1.d, .int .i64 B1.e, .int .i64 B1.f]] w' fun e w'' => e = .returned (.tuple #[.int .i64 F1, .int .i64 0]) ∧ Below w'.heap.size w' w'') := Lib.hid fun w' h' => by rw [hF1]; exact HP.out.bound w' h' B1 sb1.out
  have BD2 : Hid (∀ w', Below w.heap.size w w' → Calls Try.prog 40 #[.agg #[.int .i64 R.a, .int .i64 R.b, .int .i64 R.c, .int .i64 R.d, .int .i64 R.e, .int .i64 R.f, .int .i64 q.s, .slice (some ⟨q.b1, 0, none⟩) q.n q.c1, .slice (some ⟨q.b2, 0, none⟩) q.n2 q.c2, .slice (some ⟨q.gp, 0, none⟩) q.nl q.cc, .int .i64 q.cap], .agg #[.int .i64 B2.a, .int .i64 B2.b, .int .i64 B2.c, .int .i64 B2.d, .int .i64 B2.e, .int .i64 B2.f]] w' fun e w'' => e = .returned (.tuple #[.int .i64 F22, .int .i64 0]) ∧ Below w'.heap.size w' w'') := Lib.hid fun w' h' => by rw [hF2]; exact HP.out.bound w' h' B2 sb2.out
  replace hF1 := Lib.hid hF1
  replace hF2 := Lib.hid hF2
  replace hone := Lib.hid hone
  replace hB1 := Lib.hid hB1
  replace hB2' := Lib.hid hB2'
  clear k1 k2 k3 k4 k5
  go_upto_region 21 with (first | ((with_reducible refine Mid.ldm 26 (.tmp 120) b (j * 8) (box6 B) RBX.out ?_ ?_ ?_ ?_ ?_ ?_); (· rfl); (· rfl); (· first | rfl | simp [Act.eval]); (· exact ⟨_, rfl, rfl⟩); (· kernel_rfl)) | (go_at_call 44; refine (SN.out _).mono ?_; rintro e w13 ⟨rfl, b13⟩; have S13 := Lib.hid (S12.out.below b13); have A1 := Lib.hid (Geo.blk_alloc (Geo.blk_new w13 (.cells #[.int .i64 0, .int .i64 0, .int .i64 0, .int .i64 0, .int .i64 0, .int .i64 0] 26)) (.cells #[.int .i64 0, .int .i64 0, .int .i64 0, .int .i64 0, .int .i64 0, .int .i64 0] 26)); have A3 : Hid ((((w13.alloc (.cells #[.int .i64 0, .int .i64 0, .int .i64 0, .int .i64 0, .int .i64 0, .int .i64 0] 26)).alloc (.cells #[.int .i64 0, .int .i64 0, .int .i64 0, .int .i64 0, .int .i64 0, .int .i64 0] 26)).setRow w13.heap.size #[.int .i64 B1.a, .int .i64 B1.b, .int .i64 B1.c, .int .i64 B1.d, .int .i64 B1.e, .int .i64 B1.f]).heap[w13.heap.size + 1]? = some (.cells #[.int .i64 0, .int .i64 0, .int .i64 0, .int .i64 0, .int .i64 0, .int .i64 0] 26 (0, 0))) := Lib.hid ((setRow_other _ _ _ _ (by omega)).trans (Geo.blk_new1 w13 _ _)); clear b13) | ((with_reducible refine Mid.str 26 (.tmp 18) (.tmp 123) w13.heap.size 26 #[.int .i64 0, .int .i64 0, .int .i64 0, .int .i64 0, .int .i64 0, .int .i64 0] #[.int .i64 B1.a, .int .i64 B1.b, .int .i64 B1.c, .int .i64 B1.d, .int .i64 B1.e, .int .i64 B1.f] A1.out ?_ ?_ ?_ ?_ ?_ ?_ ?_ ?_); (· rfl); (· rfl); (· first | rfl | simp [Act.eval]); (· first | rfl | simp [Act.eval]); (· kernel_rfl); (· rfl); (· simp [Value.oneCell'])) | ((with_reducible refine Mid.str 26 (.tmp 19) (.tmp 124) (w13.heap.size + 1) 26 #[.int .i64 0, .int .i64 0, .int .i64 0, .int .i64 0, .int .i64 0, .int .i64 0] #[.int .i64 B2.a, .int .i64 B2.b, .int .i64 B2.c, .int .i64 B2.d, .int .i64 B2.e, .int .i64 B2.f] A3.out ?_ ?_ ?_ ?_ ?_ ?_ ?_ ?_); (· rfl); (· rfl); (· first | rfl | simp [Act.eval]); (· first | rfl | simp [Act.eval]); (· kernel_rfl); (· rfl); (· simp [Value.oneCell'])))
  try simp only [Act.put]
  have N14 : Below w13.heap.size w13 ((((w13.alloc (.cells #[.int .i64 0, .int .i64 0, .int .i64 0, .int .i64 0, .int .i64 0, .int .i64 0] 26)).alloc (.cells #[.int .i64 0, .int .i64 0, .int .i64 0, .int .i64 0, .int .i64 0, .int .i64 0] 26)).setRow w13.heap.size #[.int .i64 B1.a, .int .i64 B1.b, .int .i64 B1.c, .int .i64 B1.d, .int .i64 B1.e, .int .i64 B1.f]).setRow (w13.heap.size + 1) #[.int .i64 B2.a, .int .i64 B2.b, .int .i64 B2.c, .int .i64 B2.d, .int .i64 B2.e, .int .i64 B2.f]) := Mid.below_row (Mid.below_row (Buf.then_ (Mis.new_block _) (Mis.new_block _)) _ _ (Nat.le_refl _)) _ _ (by omega)
  have S14 := Lib.hid (S13.out.below N14)
  obtain ⟨w14, hw14⟩ : ∃ z, z = (((w13.alloc (.cells #[.int .i64 0, .int .i64 0, .int .i64 0, .int .i64 0, .int .i64 0, .int .i64 0] 26)).alloc (.cells #[.int .i64 0, .int .i64 0, .int .i64 0, .int .i64 0, .int .i64 0, .int .i64 0] 26)).setRow w13.heap.size #[.int .i64 B1.a, .int .i64 B1.b, .int .i64 B1.c, .int .i64 B1.d, .int .i64 B1.e, .int .i64 B1.f]).setRow (w13.heap.size + 1) #[.int .i64 B2.a, .int .i64 B2.b, .int .i64 B2.c, .int .i64 B2.d, .int .i64 B2.e, .int .i64 B2.f] := ⟨_, rfl⟩
  have Q1 : Hid (w14.heap[w13.heap.size]? = some (.cells #[.int .i64 B1.a, .int .i64 B1.b, .int .i64 B1.c, .int .i64 B1.d, .int .i64 B1.e, .int .i64 B1.f] 26 (0, 0))) := Lib.hid (by rw [hw14]; exact (setRow_other _ _ _ _ (by omega)).trans (setRow_heap _ _ _ _ _ _ A1.out))
  have Q2 : Hid (w14.heap[w13.heap.size + 1]? = some (.cells #[.int .i64 B2.a, .int .i64 B2.b, .int .i64 B2.c, .int .i64 B2.d, .int .i64 B2.e, .int .i64 B2.f] 26 (0, 0))) := Lib.hid (by rw [hw14]; exact setRow_heap _ _ _ _ _ _ A3.out)
  rw [← hw14] at S14 ⊢
  obtain ⟨p18, hp18⟩ : ∃ z, z = w13.heap.size := ⟨_, rfl⟩
  obtain ⟨p19, hp19⟩ : ∃ z, z = w13.heap.size + 1 := ⟨_, rfl⟩
  rw [← hp18] at Q1
  rw [← hp19] at Q2
  rw [← hp19, ← hp18]
  have PB := Lib.hid (show w14.heap[p2]? = some (.cells #[.int .i64 R.a, .int .i64 R.b, .int .i64 R.c, .int .i64 R.d, .int .i64 R.e, .int .i64 R.f, .int .i64 q.s, .slice (some ⟨q.b1, 0, none⟩) q.n q.c1, .slice (some ⟨q.b2, 0, none⟩) q.n2 q.c2, .slice (some ⟨q.gp, 0, none⟩) q.nl q.cc, .int .i64 q.cap] 36 (0, 0)) from S14.out.prb)
  clear hw14 N14 A1 A3 S12 S13 RBX SN hp18 hp19
  go_upto_region 23 with (first | ((with_reducible refine Mid.ldr 36 (.tmp 2) p2 36 #[.int .i64 R.a, .int .i64 R.b, .int .i64 R.c, .int .i64 R.d, .int .i64 R.e, .int .i64 R.f, .int .i64 q.s, .slice (some ⟨q.b1, 0, none⟩) q.n q.c1, .slice (some ⟨q.b2, 0, none⟩) q.n2 q.c2, .slice (some ⟨q.gp, 0, none⟩) q.nl q.cc, .int .i64 q.cap] PB.out ?_ ?_ ?_ ?_ ?_ ?_); (· rfl); (· rfl); (· first | rfl | simp [Act.eval]); (· exact ⟨_, rfl, rfl⟩); (· kernel_rfl)) | ((with_reducible refine Mid.ldr 26 (.tmp 18) p18 26 #[.int .i64 B1.a, .int .i64 B1.b, .int .i64 B1.c, .int .i64 B1.d, .int .i64 B1.e, .int .i64 B1.f] Q1.out ?_ ?_ ?_ ?_ ?_ ?_); (· rfl); (· rfl); (· first | rfl | simp [Act.eval]); (· exact ⟨_, rfl, rfl⟩); (· kernel_rfl)) | (go_at_call 40; refine (BD1.out _ S14.out.bel).mono ?_; rintro e w15 ⟨rfl, b15⟩; have S15 := Lib.hid (S14.out.below b15); have U1 := Lib.hid (Mis.hb b15 Q1.out); have U2 := Lib.hid (Mis.hb b15 Q2.out); have PB5 := Lib.hid (Mis.hb b15 PB.out); clear b15))
  clear S14 Q1 Q2 PB BD1
  go_upto_region 24 with (first | ((with_reducible refine Mid.ldr 36 (.tmp 2) p2 36 #[.int .i64 R.a, .int .i64 R.b, .int .i64 R.c, .int .i64 R.d, .int .i64 R.e, .int .i64 R.f, .int .i64 q.s, .slice (some ⟨q.b1, 0, none⟩) q.n q.c1, .slice (some ⟨q.b2, 0, none⟩) q.n2 q.c2, .slice (some ⟨q.gp, 0, none⟩) q.nl q.cc, .int .i64 q.cap] PB5.out ?_ ?_ ?_ ?_ ?_ ?_); (· rfl); (· rfl); (· first | rfl | simp [Act.eval]); (· exact ⟨_, rfl, rfl⟩); (· kernel_rfl)) | ((with_reducible refine Mid.ldr 26 (.tmp 19) p19 26 #[.int .i64 B2.a, .int .i64 B2.b, .int .i64 B2.c, .int .i64 B2.d, .int .i64 B2.e, .int .i64 B2.f] U2.out ?_ ?_ ?_ ?_ ?_ ?_); (· rfl); (· rfl); (· first | rfl | simp [Act.eval]); (· exact ⟨_, rfl, rfl⟩); (· kernel_rfl)) | (go_at_call 40; refine (BD2.out _ S15.out.bel).mono ?_; rintro e w16 ⟨rfl, b16⟩; have S16 := Lib.hid (S15.out.below b16); have V1 := Lib.hid (Mis.hb b16 U1.out); have V2 := Lib.hid (Mis.hb b16 U2.out); clear b16))
  clear S15 U1 U2 PB5 BD2
  obtain ⟨ti, hi, hz0, hz1, hz2⟩ : ∃ i, Try.prog.info? 87 = some i ∧ i.zero = some (.agg #[.int .i64 0, .int .i64 0, .int .i64 0, .int .i64 0, .int .i64 0, .int .i64 0, .int .i64 0, .bool false]) ∧ i.size = 8 ∧ i.bytes = 64 := ⟨_, rfl, by kernel_rfl, by kernel_rfl, by kernel_rfl⟩
  have m1 := Lib.hid (show (L.set j ⟨(gd L j).o, true⟩).length + 2 ≤ maxLen by rw [List.length_set]; unfold maxLen; omega)
  have m2 := Lib.hid (show ((L.set j ⟨(gd L j).o, true⟩).length + 2) * 64 ≤ 140737488355328 by rw [List.length_set]; omega)
  have hsz := Lib.hid S16.out.bel.size
  have hown := Lib.hid S16.out.own
  have one_ : Hid (∀ u ∈ ([.int .i64 B1.a, .int .i64 B1.b, .int .i64 B1.c, .int .i64 B1.d, .int .i64 B1.e, .int .i64 B1.f, .int .i64 F1, .bool false, .int .i64 B2.a, .int .i64 B2.b, .int .i64 B2.c, .int .i64 B2.d, .int .i64 B2.e, .int .i64 B2.f, .int .i64 F22, .bool false] : List Value), u.oneCell' = true) := Lib.hid (by simp [Value.oneCell'])
  go_wp2_with (first | ((with_reducible refine Mid.ldr 26 (.tmp 18) p18 26 #[.int .i64 B1.a, .int .i64 B1.b, .int .i64 B1.c, .int .i64 B1.d, .int .i64 B1.e, .int .i64 B1.f] V1.out ?_ ?_ ?_ ?_ ?_ ?_); (· rfl); (· rfl); (· first | rfl | simp [Act.eval]); (· exact ⟨_, rfl, rfl⟩); (· kernel_rfl)) | ((with_reducible refine Mid.ldr 26 (.tmp 19) p19 26 #[.int .i64 B2.a, .int .i64 B2.b, .int .i64 B2.c, .int .i64 B2.d, .int .i64 B2.e, .int .i64 B2.f] V2.out ?_ ?_ ?_ ?_ ?_ ?_); (· rfl); (· rfl); (· first | rfl | simp [Act.eval]); (· exact ⟨_, rfl, rfl⟩); (· kernel_rfl)) | (at_builtin; refine append16 rfl _ _ 88 rfl w.heap.size 87 _ ti _ 64 Try.underlying88 hi hz0 hz1 hz2 rfl (v := .slice (some ⟨b, 0, none⟩) nn cc) rfl hown.out hsz.out [.int .i64 B1.a, .int .i64 B1.b, .int .i64 B1.c, .int .i64 B1.d, .int .i64 B1.e, .int .i64 B1.f, .int .i64 F1, .bool false, .int .i64 B2.a, .int .i64 B2.b, .int .i64 B2.c, .int .i64 B2.d, .int .i64 B2.e, .int .i64 B2.f, .int .i64 F22, .bool false] rfl one_.out rfl m1.out m2.out ?_; intro v' w17 ho hg))
  have S16b := S16.out.below (Mis.new_block (.cells #[.int .i64 B1.a, .int .i64 B1.b, .int .i64 B1.c, .int .i64 B1.d, .int .i64 B1.e, .int .i64 B1.f, .int .i64 F1, .bool false, .int .i64 B2.a, .int .i64 B2.b, .int .i64 B2.c, .int .i64 B2.d, .int .i64 B2.e, .int .i64 B2.f, .int .i64 F22, .bool false] 87))
  have ho' : OwnD w17 w.heap.size v' ((L.set j ⟨(gd L j).o, true⟩) ++ ([⟨⟨B1.a, B1.b, B1.c, B1.d, B1.e, B1.f, Ak.F B1, L.length⟩, false⟩, ⟨⟨B2.a, B2.b, B2.c, B2.d, B2.e, B2.f, Ak.F B2, (L.length : Int) + 1⟩, false⟩] : List OD)) := by
    unfold OwnD
    rw [show ((L.set j ⟨(gd L j).o, true⟩) ++ ([⟨⟨B1.a, B1.b, B1.c, B1.d, B1.e, B1.f, Ak.F B1, L.length⟩, false⟩, ⟨⟨B2.a, B2.b, B2.c, B2.d, B2.e, B2.f, Ak.F B2, (L.length : Int) + 1⟩, false⟩] : List OD)).length = (L.set j ⟨(gd L j).o, true⟩).length + 2 by simp]
    have e : cellsd ((L.set j ⟨(gd L j).o, true⟩) ++ ([⟨⟨B1.a, B1.b, B1.c, B1.d, B1.e, B1.f, Ak.F B1, L.length⟩, false⟩, ⟨⟨B2.a, B2.b, B2.c, B2.d, B2.e, B2.f, Ak.F B2, (L.length : Int) + 1⟩, false⟩] : List OD)) = cellsd (L.set j ⟨(gd L j).o, true⟩) ++ [.int .i64 B1.a, .int .i64 B1.b, .int .i64 B1.c, .int .i64 B1.d, .int .i64 B1.e, .int .i64 B1.f, .int .i64 F1, .bool false, .int .i64 B2.a, .int .i64 B2.b, .int .i64 B2.c, .int .i64 B2.d, .int .i64 B2.e, .int .i64 B2.f, .int .i64 F22, .bool false] := by
      rw [hF1.out, hF2.out]; unfold cellsd; rw [List.flatMap_append]; rfl
    rw [e]
    exact ho
  have S17 := Lib.hid (S16b.more hg ho')
  obtain ⟨ad', n', c', rfl, hn'⟩ := Mis.own_letter ho'
  clear S16 S16b ho ho' hg hown hsz m1 m2 V1 V2 one_ hn'
  go_roundw
  case rel => exact ⟨k', _, take Ak st, _, _, _, rfl, by rw [etk.out], Lib.hid (by rw [← eX.out]; exact S17.out), RT, J, G2, F2, hD, hM⟩
  case measure => have := htk.out; simp [intOf]; omega
set_option maxHeartbeats 8000000 in
set_option maxRecDepth 100000 in
noncomputable def ck_lv2 : (P_lv8 : Prop) ×' (P_lv9 : Prop) ×' (Ckp P_lv8 → Ckp P_lv9 → ck_lv1.1) := by
  apply PSigma.mk
  case snd =>
    apply PSigma.mk
    case snd =>
      intro hck_lv8 hck_lv9
      intro w Ak R q tol t0 t9 HP FN w1 p2 p4 a2 a4
        lv1i0 w2 w3 dt w5 p11 p10 lv1i1 lv1i2 wr u5 u6 u13 u14
        u15 u16 u17 u18 u19 u20 u21 u22 u23 u24 lv2i0 lv2i1 lv2i2 lv2i3
        lv2i4 lv2i5 lv2i6 lv2i7 lv2i8 lv2i9 lv2i10 lv2i11 lv2i12 lv2i13 lv2i14 lv2i15 lv2i16 lv2i17
        lv2i18 u66 lv2i19 lv2i20 lv2i21 lv2i22 lv2i23 lv2i24 lv2i25 lv2i26 lv2i27 lv2i28 lv2i29 lv2i30
        lv2i31 lv2i32 lv2i33 lv2i34 lv2i35 lv2i36 lv2i37 lv2i38 lv2i39 lv2i40 lv2i41 lv2i42 lv2i43 lv2i44
        lv2i45 lv2i46 lv2i47 lv2i48 lv2i49 lv2i50 lv2i51 lv2i52 lv2i53 lv2i54 lv2i55 lv2i56 lv2i57 lv2i58
        lv2i59 lv2i60 lv2i61 lv2i62 lv2i63 lv2i64 lv2i65 lv2i66 lv2i67 lv2i68 lv2i69 lv2i70 lv2i71 lv2i72
        lv2i73 lv2i74 lv2i75 lv2i76 lv2i77 lv2i78 lv2i79 lv2i80 lv2i81 lv2i82 lv2i83 lv2i84 lv2i85 lv2i86
        lv2i87 lv2i88 lv2i89 lv2i90 lv2i91 lv2i92 lv2i93 lv2i94 lv2i95 lv2i96 lv2i97 lv2i98 lv2i99 k
        L st ad nn cc RL I G F D M0 hL9 lv2i100 w4
        lv2i101 lv2i102 lv2i103 lv2i104 u tk tk0 m m9 m0 htk hm hu wc
        u47 u48 u49 u50 u51 u52 u53 u54 u55 u56 u57 u58 u59 u60
        u61 u62 u63 u64 u65 u67 u68 u69 u70 u71 u72 u73 u74 u75
        u76 u77 u78 u79 u80 u81 u82 u83 u84 u85 u86 u87 u88 u89
        u90 u91 u92 u93 u94 u95 u96 u97 u98 u99 u100 u101 u102 u103
        u104 u105 u106 u107 u108 u109 u110 u111 u112 u113 u114 u115 u116 u117
        u118 u119 u120 u121 u122 u123 u124 u125 u126 u127 u128 u129 u130 u131
        u132 u133 u134 u135 u136 u137 u138 u139 u140 u141 u142 u143 u144 u145
        u146 u147 S6 hr
      have eF : st = FN := by have := F.out; rw [run_end hr.out.symm] at this; exact this
      subst eF
      have hfd : st.fd = true := by
        by_cases h : 0 < st.tk
        · rw [D.out, decide_eq_true h]
        · have f0 : st.fd = false := by rw [D.out, decide_eq_false h]
          have e0 := hr.out
          unfold ended at e0
          rw [f0, Bool.false_and, Bool.or_false] at e0
          have h0 : st.op.length = 0 := of_decide_eq_true e0.symm
          have p := I.out.pot
          rw [List.eq_nil_of_length_eq_zero h0] at p
          have := np_pos HP.out.good.rv
          have := I.out.tk0
          simp [wgt] at p
          omega
      obtain ⟨hin, _⟩ := I.out.bst hfd
      have hR : Hid (RSaid st tol = #[.agg (lrow st (lowR m L) (areaR m ⟨st.x, st.y, st.z, st.x, st.y, st.z⟩ L)).toArray, .int .i64 tk, .int .i64 0]) := Lib.hid (by unfold RSaid; rw [if_pos hr.out.symm, hm.out, htk.out, low_rel RL.out, area_rel RL.out]; rfl)
      have bvA : Hid (∀ kk, Geo.BV (areaR m ⟨st.x, st.y, st.z, st.x, st.y, st.z⟩ (L.take kk)).a (areaR m ⟨st.x, st.y, st.z, st.x, st.y, st.z⟩ (L.take kk)).b (areaR m ⟨st.x, st.y, st.z, st.x, st.y, st.z⟩ (L.take kk)).c (areaR m ⟨st.x, st.y, st.z, st.x, st.y, st.z⟩ (L.take kk)).d (areaR m ⟨st.x, st.y, st.z, st.x, st.y, st.z⟩ (L.take kk)).e (areaR m ⟨st.x, st.y, st.z, st.x, st.y, st.z⟩ (L.take kk)).f) := Lib.hid fun kk => by
        rw [area_left]
        refine HP.out.bv _ (areaF_all (R := R) m _ ⟨st.x, st.y, st.z, st.x, st.y, st.z⟩ (pb_sub hin) fun o ho => ?_).1
        obtain ⟨x, hx, hd, rfl⟩ := left_mem.1 ho
        exact (I.out.box _ (RL.out.op.mem_iff.1 (left_mem.2 ⟨x, List.mem_of_mem_take hx, hd, rfl⟩))).1
      have bvC : Hid (∀ kk, kk < L.length → (gd L kk).dn = false → Geo.BV (gd L kk).o.bx.a (gd L kk).o.bx.b (gd L kk).o.bx.c (gd L kk).o.bx.d (gd L kk).o.bx.e (gd L kk).o.bx.f) := Lib.hid fun kk hk hd =>
        HP.out.bv _ (I.out.box _ (RL.out.op.mem_iff.1 (left_mem.2 ⟨_, gd_mem hk, hd, rfl⟩))).1
      have hl := Lib.hid S6.out.own.len
      have hnn : nn ≤ 6001 := by rw [hl.out]; exact hL9
      have RX := Lib.hid (Mid.range S6.out.loc 0 [.int .i64 st.x, .int .i64 st.y, .int .i64 st.z] (by rfl))
      have c4 : wc.cell? ⟨p11, 4, none⟩ = some (.int .i64 m) := by rw [hm.out]; exact cell_of_row wc p11 4 _ _ _ S6.out.loc
      have c5 : wc.cell? ⟨p11, 5, none⟩ = some (.int .i64 0) := cell_of_row wc p11 5 _ _ _ S6.out.loc
      have f5 := frozen_of_row wc p11 5 _ _ S6.out.loc
      have S21 : Hid (RS w p2 p4 p11 R q (wc.setCell ⟨p11, 5, none⟩ (.int .i64 m)) (.slice ad nn cc) L (lrow st m ⟨0, 0, 0, 0, 0, 0⟩).toArray) := Lib.hid (S6.out.cell 5 _ (set_low st 0 m _))
      have T6 := Lib.hid (Mid.there S21.out.loc 6 6 (show 6 + 6 ≤ 12 from Nat.le_refl _))
      clear I D M0 G F hin hfd
      go_upto_region 25 with fail
      go_upto_region 26 with (first | ((with_reducible refine Mid.ldm 24 (.tmp 150) p11 0 [.int .i64 st.x, .int .i64 st.y, .int .i64 st.z] RX.out ?_ ?_ ?_ ?_ ?_ ?_); (· rfl); (· rfl); (· first | rfl | simp [Act.eval]); (· exact ⟨_, rfl, rfl⟩); (· kernel_rfl)) | ((with_reducible refine Mid.ldm 24 (.tmp 152) p11 0 [.int .i64 st.x, .int .i64 st.y, .int .i64 st.z] RX.out ?_ ?_ ?_ ?_ ?_ ?_); (· rfl); (· rfl); (· first | rfl | simp [Act.eval]); (· exact ⟨_, rfl, rfl⟩); (· kernel_rfl)) | ((with_reducible refine Mid.stm 26 (.tmp 156) (.tmp 154) p11 6 6 [.int .i64 st.x, .int .i64 st.y, .int .i64 st.z, .int .i64 st.x, .int .i64 st.y, .int .i64 st.z] T6.out ?_ ?_ ?_ ?_ ?_ ?_ ?_ ?_); (· rfl); (· rfl); (· first | rfl | simp [Act.eval]); (· first | rfl | simp [Act.eval]); (· rfl); (· kernel_rfl); (· simp [Value.oneCell'])))
      try simp only [Act.put]
      have S22 : Hid (RS w p2 p4 p11 R q ((wc.setCell ⟨p11, 5, none⟩ (.int .i64 m)).setCells p11 6 [.int .i64 st.x, .int .i64 st.y, .int .i64 st.z, .int .i64 st.x, .int .i64 st.y, .int .i64 st.z]) (.slice ad nn cc) L (lrow st m ⟨st.x, st.y, st.z, st.x, st.y, st.z⟩).toArray) := Lib.hid (S21.out.cells 6 [.int .i64 st.x, .int .i64 st.y, .int .i64 st.z, .int .i64 st.x, .int .i64 st.y, .int .i64 st.z] (set_area st m _ ⟨st.x, st.y, st.z, st.x, st.y, st.z⟩))
      obtain ⟨w22, hw22⟩ : ∃ z, z = (wc.setCell ⟨p11, 5, none⟩ (.int .i64 m)).setCells p11 6 [.int .i64 st.x, .int .i64 st.y, .int .i64 st.z, .int .i64 st.x, .int .i64 st.y, .int .i64 st.z] := ⟨_, rfl⟩
      rw [← hw22] at S22 ⊢
      clear hw22 S21 S6 T6 c4 c5 f5 RX
      go_wp2_with fail
      go_loopw [25] (fun i wr => ∃ kk : Nat, kk ≤ nn ∧ i = .int .i64 kk ∧ Hid (RS w p2 p4 p11 R q wr (.slice ad nn cc) L (lrow st (lowR m (L.take kk)) (areaR m ⟨st.x, st.y, st.z, st.x, st.y, st.z⟩ (L.take kk))).toArray)) (fun i _ => nn - (intOf i).toNat)
      case atStart => exact ⟨0, Nat.zero_le _, rfl, S22⟩
      case round =>
        clear S22
        obtain ⟨kk, hkn, rfl, S23⟩ := hrel
        by_cases hlt : kk < nn
        · have hkl : kk < L.length := by rw [← hl.out]; exact hlt
          have kn : (kk : Int) < nn := by omega
          obtain ⟨b, rfl, hx1, hx2, hx3⟩ := S23.out.own.addr (by omega)
          clear hx1 hx2 hx3
          have htk2 := taked_g hkl
          obtain ⟨lo, hlo0⟩ : ∃ z, z = lowR m (L.take kk) := ⟨_, rfl⟩
          obtain ⟨A, hA0⟩ : ∃ z, z = areaR m ⟨st.x, st.y, st.z, st.x, st.y, st.z⟩ (L.take kk) := ⟨_, rfl⟩
          have hlo := lowR_snoc m (L.take kk) (gd L kk)
          have har := areaR_snoc m ⟨st.x, st.y, st.z, st.x, st.y, st.z⟩ (L.take kk) (gd L kk)
          have bA := bvA.out kk
          rw [← htk2, ← hlo0] at hlo
          rw [← htk2, ← hA0] at har
          rw [← hlo0, ← hA0] at S23
          rw [← hA0] at bA
          have c7 := S23.out.own.cell hkl 7 _ rfl
          have c6 := S23.out.own.cell hkl 6 _ rfl
          have c4 : wr.cell? ⟨p11, 4, none⟩ = some (.int .i64 m) := by rw [hm.out]; exact cell_of_row wr p11 4 _ _ _ S23.out.loc
          obtain ⟨C, hC⟩ : ∃ z, z = (gd L kk).o.bx := ⟨_, rfl⟩
          have bC := bvC.out kk hkl
          rw [← hC] at bC har
          obtain ⟨dn, hdn⟩ : ∃ z, z = (gd L kk).dn := ⟨_, rfl⟩
          obtain ⟨bd, hbd⟩ : ∃ z, z = (gd L kk).o.bd := ⟨_, rfl⟩
          rw [← hdn] at c7 hlo har bC
          rw [← hbd] at c6 hlo har
          replace hdn := Lib.hid hdn
          replace hbd := Lib.hid hbd
          replace hlo0 := Lib.hid hlo0
          replace hA0 := Lib.hid hA0
          replace htk2 := Lib.hid htk2
          replace bA := Lib.hid bA
          by_cases hy : dn = false ∧ bd < m
          · obtain ⟨rfl, hy2⟩ := hy
            rw [if_pos ⟨rfl, hy2⟩] at hlo har
            replace hlo := Lib.hid hlo
            replace har := Lib.hid har
            have bC2 := Lib.hid (bC rfl)
            have d1 : decide (bd < m) = true := decide_eq_true hy2
            have BX := Lib.hid (OwnD.box S23.out.own hkl hC)
            have hkl2 := Lib.hid hkl
            have hC2 := Lib.hid hC
            clear bC hC hkl
            go_wp2_with fail
            go_quiet (fail)
            rename_i lv8i0 lv8i1 lv8i2 lv8i3 lv8i4 lv8i5 lv8i6 lv8i7 lv8i8
            revert w Ak R q tol t0 t9 HP w1 p2 p4 a2 a4 w2 w3 dt w5 p11 p10 lv1i1 lv8i0 u5 u6 u13 u14 u15 u16 u17 u18 u19 u20 u21 u22 u23 u24 lv2i0 lv2i1 lv2i2 lv2i3 lv2i4 lv2i5 lv2i6 lv2i7 lv2i8 lv2i9 lv2i10 lv2i11 lv2i12 lv2i13 lv2i14 lv2i15 lv2i16 lv2i17 lv2i18 u66 lv2i19 lv2i20 lv2i21 lv2i22 lv2i23 lv2i24 lv2i25 lv2i26 lv2i27 lv2i28 lv2i29 lv2i30 lv2i31 lv2i32 lv2i33 lv2i34 lv2i35 lv2i36 lv2i37 lv2i38 lv2i39 lv2i40 lv2i41 lv2i42 lv2i43 lv2i44 lv2i45 lv2i46 lv2i47 lv2i48 lv2i49 lv2i50 lv2i51 lv2i52 lv2i53 lv2i54 lv2i55 lv2i56 lv2i57 lv2i58 lv2i59 lv2i60 lv2i61 lv2i62 lv2i63 lv2i64 lv2i65 lv2i66 lv2i67 lv2i68 lv2i69 lv2i70 lv2i71 lv2i72 lv2i73 lv2i74 lv2i75 lv2i76 lv2i77 lv2i78 lv2i79 lv2i80 lv2i81 lv2i82 lv2i83 lv2i84 lv2i85 lv2i86 lv2i87 lv2i88 lv2i89 lv2i90 lv2i91 lv2i92 lv2i93 lv2i94 lv2i95 lv2i96 lv2i97 lv2i98 lv2i99 k L st nn cc RL hL9 w4 lv2i101 u tk tk0 m m9 m0 htk hm hu wc u47 u48 u49 u50 u51 u52 u53 u54 u55 u56 u57 u58 u59 u60 u61 u62 u63 u64 u65 u67 u68 u69 u70 u71 u72 u73 u74 u75 u76 u77 u78 u79 u80 u81 u82 u83 u84 u85 u86 u87 u88 u89 u90 u91 u92 u93 u94 u95 u96 u97 u98 u99 u100 u101 u102 u103 u104 u105 u106 u107 u108 u109 u110 u111 u112 u113 u114 u115 u116 u117 u118 u119 u120 u121 u122 u123 u124 u125 u126 u127 u128 u129 u130 u131 u132 u133 u134 u135 u136 u137 u138 u139 u140 u141 u142 u143 u144 u145 u146 u147 hr lv1i0 lv8i1 hR bvA bvC hl hnn lv8i2 lv8i3 w22 wr u157 u158 u159 u160 u161 u162 u163 u164 u165 u166 u167 u168 u169 u170 u171 u172 u173 u174 u175 u176 u177 u178 u179 u180 u181 u182 u183 u184 u185 u186 u187 u188 u189 u190 u191 u192 u193 u194 u195 u196 kk hkn hlt kn b lv2i100 lv2i102 lo A S23 c4 C bd c6 hbd hlo0 hA0 htk2 bA hy2 c7 hdn hlo har bC2 d1 BX hkl2 hC2 lv8i4 lv8i5 lv8i6 lv8i7 lv8i8 nq
            exact hck_lv8.out
          · rw [if_neg hy] at hlo har
            replace hlo := Lib.hid hlo
            replace har := Lib.hid har
            replace hC := Lib.hid hC
            clear bC hkl
            cases dn with
            | true =>
              go_wp2_with fail
              go_quiet (fail)
              go_wp2_with fail
              go_roundw
              case rel => exact ⟨kk + 1, by omega, by go_num, Lib.hid (by rw [hlo.out, har.out]; exact S23.out.below (Buf.below_drewN (Below.refl _ _) _))⟩
              case measure => simp [intOf]; omega
            | false =>
              have d1 : decide (bd < m) = false := decide_eq_false fun h => hy ⟨rfl, h⟩
              clear hy
              go_wp2_with fail
              go_quiet (fail)
              go_wp2_with fail
              go_roundw
              case rel => exact ⟨kk + 1, by omega, by go_num, Lib.hid (by rw [hlo.out, har.out]; exact S23.out.below (Buf.below_drewN (Below.refl _ _) _))⟩
              case measure => simp [intOf]; omega
        · obtain rfl : kk = nn := by omega
          have hall : L.take kk = L := List.take_of_length_le (by rw [hl.out]; exact Nat.le_refl _)
          rw [hall] at S23
          clear hall
          obtain ⟨XX, hXX⟩ : ∃ z, z = (lrow st (lowR m L) (areaR m ⟨st.x, st.y, st.z, st.x, st.y, st.z⟩ L)) := ⟨_, rfl⟩
          rename_i lv9i0 lv9i1 lv9i2 lv9i3
          revert w Ak R q tol t0 t9 HP w1 p2 p4 a2 a4 w2 w3 dt w5 p11 p10 lv1i1 lv9i0 u5 u6 u13 u14 u15 u16 u17 u18 u19 u20 u21 u22 u23 u24 lv2i0 lv2i1 lv2i2 lv2i3 lv2i4 lv2i5 lv2i6 lv2i7 lv2i8 lv2i9 lv2i10 lv2i11 lv2i12 lv2i13 lv2i14 lv2i15 lv2i16 lv2i17 lv2i18 u66 lv2i19 lv2i20 lv2i21 lv2i22 lv2i23 lv2i24 lv2i25 lv2i26 lv2i27 lv2i28 lv2i29 lv2i30 lv2i31 lv2i32 lv2i33 lv2i34 lv2i35 lv2i36 lv2i37 lv2i38 lv2i39 lv2i40 lv2i41 lv2i42 lv2i43 lv2i44 lv2i45 lv2i46 lv2i47 lv2i48 lv2i49 lv2i50 lv2i51 lv2i52 lv2i53 lv2i54 lv2i55 lv2i56 lv2i57 lv2i58 lv2i59 lv2i60 lv2i61 lv2i62 lv2i63 lv2i64 lv2i65 lv2i66 lv2i67 lv2i68 lv2i69 lv2i70 lv2i71 lv2i72 lv2i73 lv2i74 lv2i75 lv2i76 lv2i77 lv2i78 lv2i79 lv2i80 lv2i81 lv2i82 lv2i83 lv2i84 lv2i85 lv2i86 lv2i87 lv2i88 lv2i89 lv2i90 lv2i91 lv2i92 lv2i93 lv2i94 lv2i95 lv2i96 lv2i97 lv2i98 lv2i99 k L st ad cc RL hL9 w4 lv2i101 u tk tk0 m m9 m0 htk hm hu wc u47 u48 u49 u50 u51 u52 u53 u54 u55 u56 u57 u58 u59 u60 u61 u62 u63 u64 u65 u67 u68 u69 u70 u71 u72 u73 u74 u75 u76 u77 u78 u79 u80 u81 u82 u83 u84 u85 u86 u87 u88 u89 u90 u91 u92 u93 u94 u95 u96 u97 u98 u99 u100 u101 u102 u103 u104 u105 u106 u107 u108 u109 u110 u111 u112 u113 u114 u115 u116 u117 u118 u119 u120 u121 u122 u123 u124 u125 u126 u127 u128 u129 u130 u131 u132 u133 u134 u135 u136 u137 u138 u139 u140 u141 u142 u143 u144 u145 u146 u147 hr lv1i0 lv9i1 hR bvA bvC lv9i2 lv9i3 w22 wr u157 u158 u159 u160 u161 u162 u163 u164 u165 u166 u167 u168 u169 u170 u171 u172 u173 u174 u175 u176 u177 u178 u179 u180 u181 u182 u183 u184 u185 u186 u187 u188 u189 u190 u191 u192 u193 u194 u195 u196 kk lv2i100 lv2i102 hl hnn hkn S23 hlt XX hXX
          exact hck_lv9.out
set_option maxHeartbeats 8000000 in
set_option maxRecDepth 100000 in
theorem ck_lv8 : ck_lv2.1 := by
  intro w Ak R q tol t0 t9 HP w1 p2 p4 a2 a4 w2
    w3 dt w5 p11 p10 lv1i1 lv8i0 u5 u6 u13 u14 u15 u16 u17
    u18 u19 u20 u21 u22 u23 u24 lv2i0 lv2i1 lv2i2 lv2i3 lv2i4 lv2i5 lv2i6
    lv2i7 lv2i8 lv2i9 lv2i10 lv2i11 lv2i12 lv2i13 lv2i14 lv2i15 lv2i16 lv2i17 lv2i18 u66 lv2i19
    lv2i20 lv2i21 lv2i22 lv2i23 lv2i24 lv2i25 lv2i26 lv2i27 lv2i28 lv2i29 lv2i30 lv2i31 lv2i32 lv2i33
    lv2i34 lv2i35 lv2i36 lv2i37 lv2i38 lv2i39 lv2i40 lv2i41 lv2i42 lv2i43 lv2i44 lv2i45 lv2i46 lv2i47
    lv2i48 lv2i49 lv2i50 lv2i51 lv2i52 lv2i53 lv2i54 lv2i55 lv2i56 lv2i57 lv2i58 lv2i59 lv2i60 lv2i61
    lv2i62 lv2i63 lv2i64 lv2i65 lv2i66 lv2i67 lv2i68 lv2i69 lv2i70 lv2i71 lv2i72 lv2i73 lv2i74 lv2i75
    lv2i76 lv2i77 lv2i78 lv2i79 lv2i80 lv2i81 lv2i82 lv2i83 lv2i84 lv2i85 lv2i86 lv2i87 lv2i88 lv2i89
    lv2i90 lv2i91 lv2i92 lv2i93 lv2i94 lv2i95 lv2i96 lv2i97 lv2i98 lv2i99 k L st nn
    cc RL hL9 w4 lv2i101 u tk tk0 m m9 m0 htk hm hu
    wc u47 u48 u49 u50 u51 u52 u53 u54 u55 u56 u57 u58 u59
    u60 u61 u62 u63 u64 u65 u67 u68 u69 u70 u71 u72 u73 u74
    u75 u76 u77 u78 u79 u80 u81 u82 u83 u84 u85 u86 u87 u88
    u89 u90 u91 u92 u93 u94 u95 u96 u97 u98 u99 u100 u101 u102
    u103 u104 u105 u106 u107 u108 u109 u110 u111 u112 u113 u114 u115 u116
    u117 u118 u119 u120 u121 u122 u123 u124 u125 u126 u127 u128 u129 u130
    u131 u132 u133 u134 u135 u136 u137 u138 u139 u140 u141 u142 u143 u144
    u145 u146 u147 hr lv1i0 lv8i1 hR bvA bvC hl hnn lv8i2 lv8i3 w22
    wr u157 u158 u159 u160 u161 u162 u163 u164 u165 u166 u167 u168 u169
    u170 u171 u172 u173 u174 u175 u176 u177 u178 u179 u180 u181 u182 u183
    u184 u185 u186 u187 u188 u189 u190 u191 u192 u193 u194 u195 u196 kk
    hkn hlt kn b lv2i100 lv2i102 lo A S23 c4 C bd c6 hbd
    hlo0 hA0 htk2 bA hy2 c7 hdn hlo har bC2 d1 BX hkl2 hC2
    lv8i4 lv8i5 lv8i6 lv8i7 lv8i8 nq
  obtain ⟨w24, hw24⟩ : ∃ z, z = wr.drewN nq := ⟨_, rfl⟩
  have S24 : Hid (RS w p2 p4 p11 R q w24 (.slice (some ⟨b, 0, none⟩) nn cc) L (lrow st lo A).toArray) := Lib.hid (by rw [hw24]; exact S23.out.below (Buf.below_drewN (Below.refl _ _) _))
  rw [← hw24]
  clear hw24 S23 c4 c6 c7 BX
  have LC : Hid (∀ w', Below w24.heap.size w24 w' → w'.cell? ⟨p11, 5, none⟩ = some (.int .i64 lo)) := Lib.hid fun w' h' => cell_of_row w' p11 5 _ _ _ (S24.out.below h').loc
  have BC : Hid (∀ w', Below w24.heap.size w24 w' → w'.cell? ⟨b, kk * 8 + 6, none⟩ = some (.int .i64 bd)) := Lib.hid fun w' h' => by rw [hbd.out]; exact (S24.out.below h').own.cell hkl2.out 6 _ rfl
  have LA : Hid (∀ w', Below w24.heap.size w24 w' → w'.rangeAt p11 6 (box6 A)) := Lib.hid fun w' h' => Mid.range (S24.out.below h').loc 6 (box6 A) (by rfl)
  have BX : Hid (∀ w', Below w24.heap.size w24 w' → w'.rangeAt b (kk * 8) (box6 C)) := Lib.hid fun w' h' => OwnD.box (S24.out.below h').own hkl2.out hC2.out
  have HU := Lib.hid fun w' => rhull_of bA.out bC2.out w'
  go_upto_region 30 with fail
  refine wp_region_noPanic ?_
  refine wp_region_any (by kernel_rfl) ?_
  refine Inv.wpAny_inv (fun k => k == 17 || k == 18 || k == 19) [179, 180, 181, 182, 183, 184, 185, 186, 187, 188, 189, 190, 191, 192, 193, 194, 195] (fun w' => Below w24.heap.size w24 w') (fun _ w1 w2 => Below w1.heap.size w1 w2) (fun k => ([fun v_ w_ => v_ = .pointer (some ⟨p11, 5, none⟩), fun v_ w_ => v_ = .int .i64 lo, fun v_ w_ => v_ = .slice (some ⟨b, 0, none⟩) nn cc, fun v_ w_ => v_ = .int .i64 (kk : Int), fun v_ w_ => v_ = .pointer (some ⟨b, kk * 8, none⟩), fun v_ w_ => v_ = .pointer (some ⟨b, kk * 8 + 6, none⟩), fun v_ w_ => v_ = .int .i64 bd, fun v_ w_ => v_ = .int .i64 (min lo bd), fun v_ w_ => v_ = .pointer (some ⟨p11, 6, none⟩), fun v_ w_ => v_ = .agg (box6 A).toArray, fun v_ w_ => v_ = .slice (some ⟨b, 0, none⟩) nn cc, fun v_ w_ => v_ = .int .i64 (kk : Int), fun v_ w_ => v_ = .pointer (some ⟨b, kk * 8, none⟩), fun v_ w_ => v_ = .pointer (some ⟨b, kk * 8, none⟩), fun v_ w_ => v_ = .agg (box6 C).toArray, fun v_ w_ => v_ = .agg (box6 (hull A C)).toArray, fun v_ w_ => v_ = .pointer (some ⟨p11, 5, none⟩), fun v_ w_ => True, fun v_ w_ => True, fun v_ w_ => True] : List (Value → World → Prop)).getD k (fun _ _ => True)) _ (fun σ => by simp only [Inv.putAll, List.foldl_cons, List.foldl_nil, Act.put, List.setIfInBounds_toArray, List.set_cons_zero, List.set_cons_succ]; rfl) (by kernel_rfl) (by kernel_rfl) ?_ ((Below.refl _ _).drew) ?_ ?_ 3 #[true, true, true, true, true, true, true, true, true, true, true, true, true, true, true, true, true, false, false, false] (by kernel_rfl) (by kernel_rfl) ?_
  · intro j k v w1 w2 hjk hv hr
    rcases k with _ | k
    · exact hv
    rcases k with _ | k
    · exact hv
    rcases k with _ | k
    · exact hv
    rcases k with _ | k
    · exact hv
    rcases k with _ | k
    · exact hv
    rcases k with _ | k
    · exact hv
    rcases k with _ | k
    · exact hv
    rcases k with _ | k
    · exact hv
    rcases k with _ | k
    · exact hv
    rcases k with _ | k
    · exact hv
    rcases k with _ | k
    · exact hv
    rcases k with _ | k
    · exact hv
    rcases k with _ | k
    · exact hv
    rcases k with _ | k
    · exact hv
    rcases k with _ | k
    · exact hv
    rcases k with _ | k
    · exact hv
    rcases k with _ | k
    · exact hv
    rcases k with _ | k
    · exact hv
    rcases k with _ | k
    · exact hv
    rcases k with _ | k
    · exact hv
    · exact hv
  · intro k t hl hd
    rcases k with _ | k
    · exact absurd hl (by decide +kernel)
    rcases k with _ | k
    · exact absurd hl (by decide +kernel)
    rcases k with _ | k
    · exact absurd hl (by decide +kernel)
    rcases k with _ | k
    · exact absurd hl (by decide +kernel)
    rcases k with _ | k
    · exact absurd hl (by decide +kernel)
    rcases k with _ | k
    · exact absurd hl (by decide +kernel)
    rcases k with _ | k
    · exact absurd hl (by decide +kernel)
    rcases k with _ | k
    · exact absurd hl (by decide +kernel)
    rcases k with _ | k
    · exact absurd hl (by decide +kernel)
    rcases k with _ | k
    · exact absurd hl (by decide +kernel)
    rcases k with _ | k
    · exact absurd hl (by decide +kernel)
    rcases k with _ | k
    · exact absurd hl (by decide +kernel)
    rcases k with _ | k
    · exact absurd hl (by decide +kernel)
    rcases k with _ | k
    · exact absurd hl (by decide +kernel)
    rcases k with _ | k
    · exact absurd hl (by decide +kernel)
    rcases k with _ | k
    · exact absurd hl (by decide +kernel)
    rcases k with _ | k
    · exact absurd hl (by decide +kernel)
    rcases k with _ | k
    · exact absurd hl (by decide +kernel)
    rcases k with _ | k
    · exact absurd hl (by decide +kernel)
    rcases k with _ | k
    · exact absurd hl (by decide +kernel)
    · simp at hd
  · show Inv.Steps _ _ _ _ _ _ _ _ [0, 1, 2, 3, 4, 5, 6, 7, 8, 9, 10, 11, 12, 13, 14, 15, 16]
    refine Inv.Steps.go (by decide) (by rfl) (fun σ wx hw hd K hK => ?_) ?_
    · simp only [List.getElem_toArray, List.getElem_cons_zero, List.getElem_cons_succ, Act.put, List.setIfInBounds_toArray, List.set_cons_zero, List.set_cons_succ] at hK ⊢
      go_simp
      exact hK.out _ _ hw (Below.refl _ _) (rfl)
    refine Inv.Steps.go (by decide) (by rfl) (fun σ wx hw hd K hK => ?_) ?_
    · obtain e179 : (σ 179) = .pointer (some ⟨p11, 5, none⟩) := hd 0 (some 179) (by kernel_rfl) (by rfl)
      simp only [List.getElem_toArray, List.getElem_cons_zero, List.getElem_cons_succ, Act.put, List.setIfInBounds_toArray, List.set_cons_zero, List.set_cons_succ, e179] at hK ⊢
      have c5 := LC.out _ hw
      go_simp
      exact hK.out _ _ hw (Below.refl _ _) (rfl)
    refine Inv.Steps.go (by decide) (by rfl) (fun σ wx hw hd K hK => ?_) ?_
    · simp only [List.getElem_toArray, List.getElem_cons_zero, List.getElem_cons_succ, Act.put, List.setIfInBounds_toArray, List.set_cons_zero, List.set_cons_succ] at hK ⊢
      go_simp
      exact hK.out _ _ hw (Below.refl _ _) (rfl)
    refine Inv.Steps.go (by decide) (by rfl) (fun σ wx hw hd K hK => ?_) ?_
    · simp only [List.getElem_toArray, List.getElem_cons_zero, List.getElem_cons_succ, Act.put, List.setIfInBounds_toArray, List.set_cons_zero, List.set_cons_succ] at hK ⊢
      go_simp
      exact hK.out _ _ hw (Below.refl _ _) (rfl)
    refine Inv.Steps.go (by decide) (by rfl) (fun σ wx hw hd K hK => ?_) ?_
    · obtain e181 : (σ 181) = .slice (some ⟨b, 0, none⟩) nn cc := hd 2 (some 181) (by kernel_rfl) (by rfl)
      obtain e182 : (σ 182) = .int .i64 (kk : Int) := hd 3 (some 182) (by kernel_rfl) (by rfl)
      simp only [List.getElem_toArray, List.getElem_cons_zero, List.getElem_cons_succ, Act.put, List.setIfInBounds_toArray, List.set_cons_zero, List.set_cons_succ, e181, e182] at hK ⊢
      go_simp
      exact hK.out _ _ hw (Below.refl _ _) (rfl)
    refine Inv.Steps.go (by decide) (by rfl) (fun σ wx hw hd K hK => ?_) ?_
    · obtain e183 : (σ 183) = .pointer (some ⟨b, kk * 8, none⟩) := hd 4 (some 183) (by kernel_rfl) (by rfl)
      simp only [List.getElem_toArray, List.getElem_cons_zero, List.getElem_cons_succ, Act.put, List.setIfInBounds_toArray, List.set_cons_zero, List.set_cons_succ, e183] at hK ⊢
      go_simp
      exact hK.out _ _ hw (Below.refl _ _) (rfl)
    refine Inv.Steps.go (by decide) (by rfl) (fun σ wx hw hd K hK => ?_) ?_
    · obtain e184 : (σ 184) = .pointer (some ⟨b, kk * 8 + 6, none⟩) := hd 5 (some 184) (by kernel_rfl) (by rfl)
      simp only [List.getElem_toArray, List.getElem_cons_zero, List.getElem_cons_succ, Act.put, List.setIfInBounds_toArray, List.set_cons_zero, List.set_cons_succ, e184] at hK ⊢
      have c6 := BC.out _ hw
      go_simp
      exact hK.out _ _ hw (Below.refl _ _) (rfl)
    refine Inv.Steps.go (by decide) (by rfl) (fun σ wx hw hd K hK => ?_) ?_
    · obtain e180 : (σ 180) = .int .i64 lo := hd 1 (some 180) (by kernel_rfl) (by rfl)
      obtain e185 : (σ 185) = .int .i64 bd := hd 6 (some 185) (by kernel_rfl) (by rfl)
      simp only [List.getElem_toArray, List.getElem_cons_zero, List.getElem_cons_succ, Act.put, List.setIfInBounds_toArray, List.set_cons_zero, List.set_cons_succ, e180, e185] at hK ⊢
      go_simp
      exact hK.out _ _ hw (Below.refl _ _) (rfl)
    refine Inv.Steps.go (by decide) (by rfl) (fun σ wx hw hd K hK => ?_) ?_
    · simp only [List.getElem_toArray, List.getElem_cons_zero, List.getElem_cons_succ, Act.put, List.setIfInBounds_toArray, List.set_cons_zero, List.set_cons_succ] at hK ⊢
      go_simp
      exact hK.out _ _ hw (Below.refl _ _) (rfl)
    refine Inv.Steps.go (by decide) (by rfl) (fun σ wx hw hd K hK => ?_) ?_
    · obtain e187 : (σ 187) = .pointer (some ⟨p11, 6, none⟩) := hd 8 (some 187) (by kernel_rfl) (by rfl)
      simp only [List.getElem_toArray, List.getElem_cons_zero, List.getElem_cons_succ, Act.put, List.setIfInBounds_toArray, List.set_cons_zero, List.set_cons_succ, e187] at hK ⊢
      refine wp_load_mid 26 (.tmp 187) rfl p11 6 rfl (box6 A) _ (LA.out _ hw) rfl rfl rfl ?_
      simp only [Act.put, List.setIfInBounds_toArray, List.set_cons_zero, List.set_cons_succ]
      exact hK.out _ _ hw (Below.refl _ _) (rfl)
    refine Inv.Steps.go (by decide) (by rfl) (fun σ wx hw hd K hK => ?_) ?_
    · simp only [List.getElem_toArray, List.getElem_cons_zero, List.getElem_cons_succ, Act.put, List.setIfInBounds_toArray, List.set_cons_zero, List.set_cons_succ] at hK ⊢
      go_simp
      exact hK.out _ _ hw (Below.refl _ _) (rfl)
    refine Inv.Steps.go (by decide) (by rfl) (fun σ wx hw hd K hK => ?_) ?_
    · simp only [List.getElem_toArray, List.getElem_cons_zero, List.getElem_cons_succ, Act.put, List.setIfInBounds_toArray, List.set_cons_zero, List.set_cons_succ] at hK ⊢
      go_simp
      exact hK.out _ _ hw (Below.refl _ _) (rfl)
    refine Inv.Steps.go (by decide) (by rfl) (fun σ wx hw hd K hK => ?_) ?_
    · obtain e189 : (σ 189) = .slice (some ⟨b, 0, none⟩) nn cc := hd 10 (some 189) (by kernel_rfl) (by rfl)
      obtain e190 : (σ 190) = .int .i64 (kk : Int) := hd 11 (some 190) (by kernel_rfl) (by rfl)
      simp only [List.getElem_toArray, List.getElem_cons_zero, List.getElem_cons_succ, Act.put, List.setIfInBounds_toArray, List.set_cons_zero, List.set_cons_succ, e189, e190] at hK ⊢
      go_simp
      exact hK.out _ _ hw (Below.refl _ _) (rfl)
    refine Inv.Steps.go (by decide) (by rfl) (fun σ wx hw hd K hK => ?_) ?_
    · obtain e191 : (σ 191) = .pointer (some ⟨b, kk * 8, none⟩) := hd 12 (some 191) (by kernel_rfl) (by rfl)
      simp only [List.getElem_toArray, List.getElem_cons_zero, List.getElem_cons_succ, Act.put, List.setIfInBounds_toArray, List.set_cons_zero, List.set_cons_succ, e191] at hK ⊢
      go_simp
      exact hK.out _ _ hw (Below.refl _ _) (rfl)
    refine Inv.Steps.go (by decide) (by rfl) (fun σ wx hw hd K hK => ?_) ?_
    · obtain e192 : (σ 192) = .pointer (some ⟨b, kk * 8, none⟩) := hd 13 (some 192) (by kernel_rfl) (by rfl)
      simp only [List.getElem_toArray, List.getElem_cons_zero, List.getElem_cons_succ, Act.put, List.setIfInBounds_toArray, List.set_cons_zero, List.set_cons_succ, e192] at hK ⊢
      refine wp_load_mid 26 (.tmp 192) rfl b (kk * 8) rfl (box6 C) _ (BX.out _ hw) rfl rfl rfl ?_
      simp only [Act.put, List.setIfInBounds_toArray, List.set_cons_zero, List.set_cons_succ]
      exact hK.out _ _ hw (Below.refl _ _) (rfl)
    refine Inv.Steps.go (by decide) (by rfl) (fun σ wx hw hd K hK => ?_) ?_
    · obtain e188 : (σ 188) = .agg (box6 A).toArray := hd 9 (some 188) (by kernel_rfl) (by rfl)
      obtain e193 : (σ 193) = .agg (box6 C).toArray := hd 14 (some 193) (by kernel_rfl) (by rfl)
      simp only [List.getElem_toArray, List.getElem_cons_zero, List.getElem_cons_succ, Act.put, List.setIfInBounds_toArray, List.set_cons_zero, List.set_cons_succ, e188, e193] at hK ⊢
      go_simp
      go_at_call 45
      refine (HU.out _).mono ?_
      rintro e_ w_ ⟨rfl, hb_⟩
      dsimp only
      exact hK.out _ _ (Buf.then_ hw hb_) hb_ (rfl)
    refine Inv.Steps.go (by decide) (by rfl) (fun σ wx hw hd K hK => ?_) ?_
    · simp only [List.getElem_toArray, List.getElem_cons_zero, List.getElem_cons_succ, Act.put, List.setIfInBounds_toArray, List.set_cons_zero, List.set_cons_succ] at hK ⊢
      go_simp
      exact hK.out _ _ hw (Below.refl _ _) (rfl)
    exact Inv.Steps.nil
  · intro σ wx hw hd
    obtain e186 : (σ 186) = .int .i64 (min lo bd) := hd 7 (some 186) (by rfl) (by rfl)
    obtain e194 : (σ 194) = .agg (box6 (hull A C)).toArray := hd 15 (some 194) (by rfl) (by rfl)
    obtain e195 : (σ 195) = .pointer (some ⟨p11, 5, none⟩) := hd 16 (some 195) (by rfl) (by rfl)
    simp only [e186, e194, e195]
    have SX := Lib.hid (S24.out.below hw)
    have c5 := LC.out _ hw
    have f5 := frozen_of_row wx p11 5 _ _ SX.out.loc
    refine Inv.one (i := 17) (by decide) (by kernel_rfl) (by rfl) (fun K hK => ?_)
    simp only [List.getElem_toArray, List.getElem_cons_zero, List.getElem_cons_succ, Act.put, List.setIfInBounds_toArray, List.set_cons_zero, List.set_cons_succ] at hK ⊢
    go_simp
    refine hK.out _ _ ?_
    clear hK K
    have SY := Lib.hid (SX.out.cell 5 (.int .i64 (min lo bd)) (set_low st lo (min lo bd) A))
    obtain ⟨wy, hwy⟩ : ∃ z, z = wx.setCell ⟨p11, 5, none⟩ (.int .i64 (min lo bd)) := ⟨_, rfl⟩
    rw [← hwy] at SY ⊢
    clear hwy c5 f5
    try simp only [Act.put, List.setIfInBounds_toArray, List.set_cons_zero, List.set_cons_succ]
    refine Inv.take (i := 18) (v := .pointer (some ⟨p11, 6, none⟩)) (by decide) rfl (by kernel_rfl) (by kernel_rfl) (by kernel_rfl) (fun _ _ _ h => h) (by rfl) (fun w' => ?_) ?_
    · simp only [List.getElem_toArray, List.getElem_cons_zero, List.getElem_cons_succ]
      go_simp
    try simp only [Act.put, List.setIfInBounds_toArray, List.set_cons_zero, List.set_cons_succ]
    have T6 : wy.there p11 6 6 := Mid.there SY.out.loc 6 6 (show 6 + 6 ≤ 12 from Nat.le_refl _)
    refine Inv.one (i := 19) (by decide) (by kernel_rfl) (by rfl) (fun K hK => ?_)
    simp only [List.getElem_toArray, List.getElem_cons_zero, List.getElem_cons_succ, Act.put, List.setIfInBounds_toArray, List.set_cons_zero, List.set_cons_succ] at hK ⊢
    refine wp_store_mid 26 (.tmp 196) (.tmp 194) rfl p11 6 (box6 (hull A C)).toArray rfl rfl T6 rfl (by simp [box6, Value.oneCell']) ?_
    refine hK.out _ _ ?_
    clear hK K
    rw [show (box6 (hull A C)).toArray.toList = box6 (hull A C) from rfl]
    have SZ := Lib.hid (SY.out.cells 6 (box6 (hull A C)) (set_area st (min lo bd) A (hull A C)))
    obtain ⟨wz, hwz⟩ : ∃ z, z = wy.setCells p11 6 (box6 (hull A C)) := ⟨_, rfl⟩
    rw [← hwz] at SZ ⊢
    clear hwz T6
    refine Inv.done (by kernel_rfl) (NoPanic.normal ?_)
    clear hd hw SX SY e186 e194 e195
    go_wp2_with fail
    go_roundw
    case rel => exact ⟨kk + 1, by omega, by go_num, Lib.hid (by rw [hlo.out, har.out]; exact SZ.out)⟩
    case measure => simp [intOf]; omega
set_option maxHeartbeats 8000000 in
set_option maxRecDepth 100000 in
theorem ck_lv9 : ck_lv2.2.1 := by
  intro w Ak R q tol t0 t9 HP w1 p2 p4 a2 a4 w2
    w3 dt w5 p11 p10 lv1i1 lv9i0 u5 u6 u13 u14 u15 u16 u17
    u18 u19 u20 u21 u22 u23 u24 lv2i0 lv2i1 lv2i2 lv2i3 lv2i4 lv2i5 lv2i6
    lv2i7 lv2i8 lv2i9 lv2i10 lv2i11 lv2i12 lv2i13 lv2i14 lv2i15 lv2i16 lv2i17 lv2i18 u66 lv2i19
    lv2i20 lv2i21 lv2i22 lv2i23 lv2i24 lv2i25 lv2i26 lv2i27 lv2i28 lv2i29 lv2i30 lv2i31 lv2i32 lv2i33
    lv2i34 lv2i35 lv2i36 lv2i37 lv2i38 lv2i39 lv2i40 lv2i41 lv2i42 lv2i43 lv2i44 lv2i45 lv2i46 lv2i47
    lv2i48 lv2i49 lv2i50 lv2i51 lv2i52 lv2i53 lv2i54 lv2i55 lv2i56 lv2i57 lv2i58 lv2i59 lv2i60 lv2i61
    lv2i62 lv2i63 lv2i64 lv2i65 lv2i66 lv2i67 lv2i68 lv2i69 lv2i70 lv2i71 lv2i72 lv2i73 lv2i74 lv2i75
    lv2i76 lv2i77 lv2i78 lv2i79 lv2i80 lv2i81 lv2i82 lv2i83 lv2i84 lv2i85 lv2i86 lv2i87 lv2i88 lv2i89
    lv2i90 lv2i91 lv2i92 lv2i93 lv2i94 lv2i95 lv2i96 lv2i97 lv2i98 lv2i99 k L st ad
    cc RL hL9 w4 lv2i101 u tk tk0 m m9 m0 htk hm hu
    wc u47 u48 u49 u50 u51 u52 u53 u54 u55 u56 u57 u58 u59
    u60 u61 u62 u63 u64 u65 u67 u68 u69 u70 u71 u72 u73 u74
    u75 u76 u77 u78 u79 u80 u81 u82 u83 u84 u85 u86 u87 u88
    u89 u90 u91 u92 u93 u94 u95 u96 u97 u98 u99 u100 u101 u102
    u103 u104 u105 u106 u107 u108 u109 u110 u111 u112 u113 u114 u115 u116
    u117 u118 u119 u120 u121 u122 u123 u124 u125 u126 u127 u128 u129 u130
    u131 u132 u133 u134 u135 u136 u137 u138 u139 u140 u141 u142 u143 u144
    u145 u146 u147 hr lv1i0 lv9i1 hR bvA bvC lv9i2 lv9i3 w22 wr u157
    u158 u159 u160 u161 u162 u163 u164 u165 u166 u167 u168 u169 u170 u171
    u172 u173 u174 u175 u176 u177 u178 u179 u180 u181 u182 u183 u184 u185
    u186 u187 u188 u189 u190 u191 u192 u193 u194 u195 u196 kk lv2i100 lv2i102
    hl hnn hkn S23 hlt XX hXX
  have KL2 : Hid (wr.heap[p11]? = some (.cells XX.toArray 28 (0, 0))) := Lib.hid (by rw [hXX]; exact S23.out.loc)
  have KZ := Lib.hid S23.out.res
  have BE := Lib.hid S23.out.bel
  have hR2 : Hid (RSaid st tol = #[.agg XX.toArray, .int .i64 tk, .int .i64 0]) := Lib.hid (by rw [hR.out, hXX])
  obtain ⟨y1, y2, y3, y4, y5, y6, y7, y8, y9, y10, y11, y12, hY⟩ : ∃ y1 y2 y3 y4 y5 y6 y7 y8 y9 y10 y11 y12 : Int, XX = [.int .i64 y1, .int .i64 y2, .int .i64 y3, .int .i64 y4, .int .i64 y5, .int .i64 y6, .int .i64 y7, .int .i64 y8, .int .i64 y9, .int .i64 y10, .int .i64 y11, .int .i64 y12] := ⟨_, _, _, _, _, _, _, _, _, _, _, _, hXX⟩
  subst hY
  clear hXX S23 hR
  go_wp2_with (first | ((with_reducible refine Mid.ldr 28 (.tmp 11) p11 28 #[.int .i64 y1, .int .i64 y2, .int .i64 y3, .int .i64 y4, .int .i64 y5, .int .i64 y6, .int .i64 y7, .int .i64 y8, .int .i64 y9, .int .i64 y10, .int .i64 y11, .int .i64 y12] KL2.out ?_ ?_ ?_ ?_ ?_ ?_); (· rfl); (· rfl); (· first | rfl | simp [Act.eval]); (· exact ⟨_, rfl, rfl⟩); (· kernel_rfl)) | ((with_reducible refine Mid.str 28 (.tmp 4) (.tmp 197) p4 28 #[.int .i64 0, .int .i64 0, .int .i64 0, .int .i64 0, .int .i64 0, .int .i64 0, .int .i64 0, .int .i64 0, .int .i64 0, .int .i64 0, .int .i64 0, .int .i64 0] #[.int .i64 y1, .int .i64 y2, .int .i64 y3, .int .i64 y4, .int .i64 y5, .int .i64 y6, .int .i64 y7, .int .i64 y8, .int .i64 y9, .int .i64 y10, .int .i64 y11, .int .i64 y12] KZ.out ?_ ?_ ?_ ?_ ?_ ?_ ?_ ?_); (· rfl); (· rfl); (· first | rfl | simp [Act.eval]); (· first | rfl | simp [Act.eval]); (· kernel_rfl); (· rfl); (· simp [Value.oneCell'])))
  try simp only [Act.put]
  have ZF : (wr.setRow p4 #[.int .i64 y1, .int .i64 y2, .int .i64 y3, .int .i64 y4, .int .i64 y5, .int .i64 y6, .int .i64 y7, .int .i64 y8, .int .i64 y9, .int .i64 y10, .int .i64 y11, .int .i64 y12]).heap[p4]? = some (.cells #[.int .i64 y1, .int .i64 y2, .int .i64 y3, .int .i64 y4, .int .i64 y5, .int .i64 y6, .int .i64 y7, .int .i64 y8, .int .i64 y9, .int .i64 y10, .int .i64 y11, .int .i64 y12] 28 (0, 0)) := setRow_heap _ _ _ _ _ _ KZ.out
  exact bodyPost_ret (Res.row_tmp2 rfl _ _ p4 _ _ _ _ rfl ZF rfl (by rfl) rfl) rfl ⟨by rw [hR2.out]; rfl, Mid.below_row BE.out _ _ a4⟩
theorem search_any (w : World) (Ak : Ask) (R : Bx) (q : Pq) (P : Rr w Ak R q) (tol : Int) (t0 : 0 ≤ tol) (t9 : tol ≤ 1000000) :
    Calls Try.prog 25 #[.agg #[.int .i64 R.a, .int .i64 R.b, .int .i64 R.c, .int .i64 R.d, .int .i64 R.e, .int .i64 R.f, .int .i64 q.s, .slice (some ⟨q.b1, 0, none⟩) q.n q.c1, .slice (some ⟨q.b2, 0, none⟩) q.n2 q.c2, .slice (some ⟨q.gp, 0, none⟩) q.nl q.cc, .int .i64 q.cap], .int .i64 tol] w fun e w' => e = .returned (.tuple (RSaid (run Ak tol 3000 (add Ak start R)) tol)) ∧ Below w.heap.size w w' :=
  (ck_root.2 ⟨(ck_lv1.2.2 ⟨(ck_lv2.2.2 ⟨ck_lv8⟩ ⟨ck_lv9⟩)⟩ ⟨(ck_lv3.2 ⟨(ck_lv4.2 ⟨(ck_lv5.2.2 ⟨ck_lv6⟩ ⟨ck_lv7⟩)⟩)⟩)⟩)⟩) w Ak R q P tol t0 t9
end Loc
end Go.Proofs.Ytldgihlhioeipaa

/- Locate of the reference; Locate of the program when its search gives up. -/
set_option linter.unusedVariables false
set_option linter.unusedSimpArgs false
namespace Go.Proofs.Ytldgihlhioeipaa
open Go.RowKit Qt
namespace Loc
set_option maxHeartbeats 8000000 in
set_option maxRecDepth 100000 in
theorem rlocate_row {w : World} {R : Bx} {q : Pq} (tol : Int) (y1 y2 y3 y4 y5 y6 y7 y8 y9 y10 y11 y12 tk er : Int)
    (SE : ∀ w', Below w.heap.size w w' → Calls Try.prog 25 #[.agg #[.int .i64 R.a, .int .i64 R.b, .int .i64 R.c, .int .i64 R.d, .int .i64 R.e, .int .i64 R.f, .int .i64 q.s, .slice (some ⟨q.b1, 0, none⟩) q.n q.c1, .slice (some ⟨q.b2, 0, none⟩) q.n2 q.c2, .slice (some ⟨q.gp, 0, none⟩) q.nl q.cc, .int .i64 q.cap], .int .i64 tol] w' fun e w'' => e = .returned (.tuple #[.agg #[.int .i64 y1, .int .i64 y2, .int .i64 y3, .int .i64 y4, .int .i64 y5, .int .i64 y6, .int .i64 y7, .int .i64 y8, .int .i64 y9, .int .i64 y10, .int .i64 y11, .int .i64 y12], .int .i64 tk, .int .i64 er]) ∧ Below w'.heap.size w' w'') :
    Calls Try.prog 8 #[.agg #[.int .i64 R.a, .int .i64 R.b, .int .i64 R.c, .int .i64 R.d, .int .i64 R.e, .int .i64 R.f, .int .i64 q.s, .slice (some ⟨q.b1, 0, none⟩) q.n q.c1, .slice (some ⟨q.b2, 0, none⟩) q.n2 q.c2, .slice (some ⟨q.gp, 0, none⟩) q.nl q.cc, .int .i64 q.cap], .int .i64 tol] w fun e w' => e = .returned (.tuple #[.agg #[.int .i64 y1, .int .i64 y2, .int .i64 y3, .int .i64 y4, .int .i64 y5, .int .i64 y6, .int .i64 y7, .int .i64 y8, .int .i64 y9, .int .i64 y10, .int .i64 y11, .int .i64 y12], .int .i64 er]) ∧ Below w.heap.size w w' := by
  have SE' := Lib.hid SE
  clear SE
  obtain ⟨w1, hw1⟩ : ∃ z, z = (w.alloc (.cells #[.int .i64 R.a, .int .i64 R.b, .int .i64 R.c, .int .i64 R.d, .int .i64 R.e, .int .i64 R.f, .int .i64 q.s, .slice (some ⟨q.b1, 0, none⟩) q.n q.c1, .slice (some ⟨q.b2, 0, none⟩) q.n2 q.c2, .slice (some ⟨q.gp, 0, none⟩) q.nl q.cc, .int .i64 q.cap] 36)).alloc (.cells #[.int .i64 0, .int .i64 0, .int .i64 0, .int .i64 0, .int .i64 0, .int .i64 0, .int .i64 0, .int .i64 0, .int .i64 0, .int .i64 0, .int .i64 0, .int .i64 0] 28) := ⟨_, rfl⟩
  have B1 := Lib.hid (show Below w.heap.size w w1 by rw [hw1]; exact Buf.then_ (Mis.new_block _) (Mis.new_block _))
  have K2 := Lib.hid (show w1.heap[w.heap.size]? = some (.cells #[.int .i64 R.a, .int .i64 R.b, .int .i64 R.c, .int .i64 R.d, .int .i64 R.e, .int .i64 R.f, .int .i64 q.s, .slice (some ⟨q.b1, 0, none⟩) q.n q.c1, .slice (some ⟨q.b2, 0, none⟩) q.n2 q.c2, .slice (some ⟨q.gp, 0, none⟩) q.nl q.cc, .int .i64 q.cap] 36 (0, 0)) by rw [hw1]; exact Geo.blk_alloc (Geo.blk_new w _) _)
  have K4 := Lib.hid (show w1.heap[w.heap.size + 1]? = some (.cells #[.int .i64 0, .int .i64 0, .int .i64 0, .int .i64 0, .int .i64 0, .int .i64 0, .int .i64 0, .int .i64 0, .int .i64 0, .int .i64 0, .int .i64 0, .int .i64 0] 28 (0, 0)) by rw [hw1]; exact Geo.blk_new1 w _ _)
  obtain ⟨p2, hp2⟩ : ∃ z, z = w.heap.size := ⟨_, rfl⟩
  obtain ⟨p4, hp4⟩ : ∃ z, z = w.heap.size + 1 := ⟨_, rfl⟩
  rw [← hp2] at K2
  rw [← hp4] at K4
  have a4 : w.heap.size ≤ p4 := by omega
  go_enter Try.func8, Try.ntmps8
  go_upto_region 1 with fail
  rw [← hw1, ← hp4, ← hp2]
  clear hw1 hp2 hp4
  go_upto_region 2 with (first | ((with_reducible refine Mid.ldr 36 (.tmp 2) p2 36 #[.int .i64 R.a, .int .i64 R.b, .int .i64 R.c, .int .i64 R.d, .int .i64 R.e, .int .i64 R.f, .int .i64 q.s, .slice (some ⟨q.b1, 0, none⟩) q.n q.c1, .slice (some ⟨q.b2, 0, none⟩) q.n2 q.c2, .slice (some ⟨q.gp, 0, none⟩) q.nl q.cc, .int .i64 q.cap] K2.out ?_ ?_ ?_ ?_ ?_ ?_); (· rfl); (· rfl); (· first | rfl | simp [Act.eval]); (· exact ⟨_, rfl, rfl⟩); (· kernel_rfl)) | (go_at_call 25; refine (SE'.out _ B1.out).mono ?_; rintro e w2 ⟨rfl, b2⟩; have B2 := Lib.hid (Buf.then_ B1.out b2); have K4b := Lib.hid (Mis.hb b2 K4.out); clear b2) | ((with_reducible refine Mid.str 28 (.tmp 6) (.tmp 13) w2.heap.size 28 #[.int .i64 0, .int .i64 0, .int .i64 0, .int .i64 0, .int .i64 0, .int .i64 0, .int .i64 0, .int .i64 0, .int .i64 0, .int .i64 0, .int .i64 0, .int .i64 0] #[.int .i64 y1, .int .i64 y2, .int .i64 y3, .int .i64 y4, .int .i64 y5, .int .i64 y6, .int .i64 y7, .int .i64 y8, .int .i64 y9, .int .i64 y10, .int .i64 y11, .int .i64 y12] (heap_alloc_new w2 _) ?_ ?_ ?_ ?_ ?_ ?_ ?_ ?_); (· rfl); (· rfl); (· first | rfl | simp [Act.eval]); (· first | rfl | simp [Act.eval]); (· kernel_rfl); (· rfl); (· simp [Value.oneCell'])))
  try simp only [Act.put]
  have N3 : Below w2.heap.size w2 ((w2.alloc (.cells #[.int .i64 0, .int .i64 0, .int .i64 0, .int .i64 0, .int .i64 0, .int .i64 0, .int .i64 0, .int .i64 0, .int .i64 0, .int .i64 0, .int .i64 0, .int .i64 0] 28)).setRow w2.heap.size #[.int .i64 y1, .int .i64 y2, .int .i64 y3, .int .i64 y4, .int .i64 y5, .int .i64 y6, .int .i64 y7, .int .i64 y8, .int .i64 y9, .int .i64 y10, .int .i64 y11, .int .i64 y12]) := Mid.below_row (Mis.new_block _) _ _ (Nat.le_refl _)
  have K6 := Lib.hid (show ((w2.alloc (.cells #[.int .i64 0, .int .i64 0, .int .i64 0, .int .i64 0, .int .i64 0, .int .i64 0, .int .i64 0, .int .i64 0, .int .i64 0, .int .i64 0, .int .i64 0, .int .i64 0] 28)).setRow w2.heap.size #[.int .i64 y1, .int .i64 y2, .int .i64 y3, .int .i64 y4, .int .i64 y5, .int .i64 y6, .int .i64 y7, .int .i64 y8, .int .i64 y9, .int .i64 y10, .int .i64 y11, .int .i64 y12]).heap[w2.heap.size]? = some (.cells #[.int .i64 y1, .int .i64 y2, .int .i64 y3, .int .i64 y4, .int .i64 y5, .int .i64 y6, .int .i64 y7, .int .i64 y8, .int .i64 y9, .int .i64 y10, .int .i64 y11, .int .i64 y12] 28 (0, 0)) from setRow_heap _ _ _ _ _ _ (heap_alloc_new w2 _))
  have K4c := Lib.hid (Mis.hb N3 K4b.out)
  obtain ⟨w3, hw3⟩ : ∃ z, z = (w2.alloc (.cells #[.int .i64 0, .int .i64 0, .int .i64 0, .int .i64 0, .int .i64 0, .int .i64 0, .int .i64 0, .int .i64 0, .int .i64 0, .int .i64 0, .int .i64 0, .int .i64 0] 28)).setRow w2.heap.size #[.int .i64 y1, .int .i64 y2, .int .i64 y3, .int .i64 y4, .int .i64 y5, .int .i64 y6, .int .i64 y7, .int .i64 y8, .int .i64 y9, .int .i64 y10, .int .i64 y11, .int .i64 y12] := ⟨_, rfl⟩
  rw [← hw3] at N3 K6 K4c ⊢
  obtain ⟨p6, hp6⟩ : ∃ z, z = w2.heap.size := ⟨_, rfl⟩
  rw [← hp6] at K6 ⊢
  have B3 := Lib.hid (Buf.then_ B2.out N3)
  clear hw3 hp6 N3 K4b K4 K2 B1 B2
  go_wp2_with (first | ((with_reducible refine Mid.ldr 28 (.tmp 6) p6 28 #[.int .i64 y1, .int .i64 y2, .int .i64 y3, .int .i64 y4, .int .i64 y5, .int .i64 y6, .int .i64 y7, .int .i64 y8, .int .i64 y9, .int .i64 y10, .int .i64 y11, .int .i64 y12] K6.out ?_ ?_ ?_ ?_ ?_ ?_); (· rfl); (· rfl); (· first | rfl | simp [Act.eval]); (· exact ⟨_, rfl, rfl⟩); (· kernel_rfl)) | ((with_reducible refine Mid.str 28 (.tmp 4) (.tmp 16) p4 28 #[.int .i64 0, .int .i64 0, .int .i64 0, .int .i64 0, .int .i64 0, .int .i64 0, .int .i64 0, .int .i64 0, .int .i64 0, .int .i64 0, .int .i64 0, .int .i64 0] #[.int .i64 y1, .int .i64 y2, .int .i64 y3, .int .i64 y4, .int .i64 y5, .int .i64 y6, .int .i64 y7, .int .i64 y8, .int .i64 y9, .int .i64 y10, .int .i64 y11, .int .i64 y12] K4c.out ?_ ?_ ?_ ?_ ?_ ?_ ?_ ?_); (· rfl); (· rfl); (· first | rfl | simp [Act.eval]); (· first | rfl | simp [Act.eval]); (· kernel_rfl); (· rfl); (· simp [Value.oneCell'])))
  try simp only [Act.put]
  have ZF : (w3.setRow p4 #[.int .i64 y1, .int .i64 y2, .int .i64 y3, .int .i64 y4, .int .i64 y5, .int .i64 y6, .int .i64 y7, .int .i64 y8, .int .i64 y9, .int .i64 y10, .int .i64 y11, .int .i64 y12]).heap[p4]? = some (.cells #[.int .i64 y1, .int .i64 y2, .int .i64 y3, .int .i64 y4, .int .i64 y5, .int .i64 y6, .int .i64 y7, .int .i64 y8, .int .i64 y9, .int .i64 y10, .int .i64 y11, .int .i64 y12] 28 (0, 0)) := setRow_heap _ _ _ _ _ _ K4c.out
  exact bodyPost_ret (Res.row_tmp rfl _ _ p4 _ _ _ _ rfl ZF rfl (by rfl) rfl) rfl ⟨rfl, Mid.below_row B3.out _ _ a4⟩
end Loc
end Go.Proofs.Ytldgihlhioeipaa
