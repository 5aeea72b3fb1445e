/- LocMF: texts joined. -/
import Derived.Lib.Hide
import Derived.Test.YtldgihlhioeipaaMisA
import Derived.Test.YtldgihlhioeipaaResMid
import Derived.BigQuiet
import Derived.Deep.QuietTactic
import Derived.Test.YtldgihlhioeipaaInvAB
import Derived.Deep.DeepCutAuto
/- The search by branch and bound: the mathematics of its queue. -/
set_option linter.unusedVariables false
namespace Go.Proofs.Ytldgihlhioeipaa
namespace Loc
/-- An open box: its ends, its bound, its number. -/
structure OB where
  a : Int
  b : Int
  c : Int
  d : Int
  e : Int
  f : Int
  bd : Int
  nr : Int
def ob0 : OB := ⟨0, 0, 0, 0, 0, 0, 0, 0⟩
def ltb (p q : OB) : Bool := if p.bd = q.bd then decide (p.nr < q.nr) else decide (p.bd < q.bd)
theorem ltb_def (p q : OB) : ltb p q = true ↔ p.bd < q.bd ∨ p.bd = q.bd ∧ p.nr < q.nr := by
  unfold ltb; split <;> simp <;> omega
theorem ltb_irr {p q r : OB} (h1 : ltb q p = false) (h2 : ltb r q = false) : ltb r p = false := by
  have a := ltb_def q p; have b := ltb_def r q; have c := ltb_def r p
  rw [← Bool.not_eq_true] at *
  rw [a] at h1; rw [b] at h2; rw [c]; omega
theorem ltb_asym {p q : OB} (h : ltb p q = true) : ltb q p = false := by
  have a := ltb_def q p; have b := ltb_def p q
  rw [← Bool.not_eq_true]
  rw [b] at h; rw [a]; omega
def g (L : List OB) (k : Nat) : OB := L.getD k ob0
def sw (L : List OB) (i j : Nat) : List OB := (L.set i (g L j)).set j (g L i)
theorem sw_len (L : List OB) (i j : Nat) : (sw L i j).length = L.length := by simp [sw]
theorem g_sw {L : List OB} {i j : Nat} (hi : i < L.length) (hj : j < L.length) (k : Nat) : g (sw L i j) k = if k = j then g L i else if k = i then g L j else g L k := by
  unfold sw g
  simp only [List.getD_eq_getElem?_getD, List.getElem?_set, List.length_set]
  by_cases h1 : k = j
  · subst h1; simp [hj]
  · by_cases h2 : k = i
    · subst h2; simp [hi, h1, Ne.symm h1]
    · simp [h1, h2, Ne.symm h1, Ne.symm h2]
theorem sw_perm {L : List OB} {i j : Nat} (hi : i < L.length) (hj : j < L.length) : (sw L i j).Perm L := by
  unfold sw g
  simp only [List.getD_eq_getElem?_getD, List.getElem?_eq_getElem hi, List.getElem?_eq_getElem hj, Option.getD_some]
  exact List.set_set_perm hi hj
/-- From the last one up. -/
def up : Nat → List OB → Nat → List OB
  | 0, L, _ => L
  | f + 1, L, j => if (j - 1) / 2 = j then L else if ltb (g L j) (g L ((j - 1) / 2)) = true then up f (sw L ((j - 1) / 2) j) ((j - 1) / 2) else L
/-- The child that goes ahead. -/
def chd (L : List OB) (i n : Nat) : Nat := if 2 * i + 2 < n ∧ ltb (g L (2 * i + 2)) (g L (2 * i + 1)) = true then 2 * i + 2 else 2 * i + 1
/-- From i down, among the first n. -/
def down : Nat → List OB → Nat → Nat → List OB
  | 0, L, _, _ => L
  | f + 1, L, i, n => if 2 * i + 1 < n then
      (if ltb (g L (chd L i n)) (g L i) = true then
        down f (sw L i (chd L i n)) (chd L i n) n
      else L)
    else L
theorem up_len : ∀ (f : Nat) (L : List OB) (j : Nat), (up f L j).length = L.length
  | 0, _, _ => rfl
  | f + 1, L, j => by
    unfold up
    split
    · rfl
    · split
      · rw [up_len f, sw_len]
      · rfl
theorem up_perm : ∀ (f : Nat) (L : List OB) (j : Nat), j < L.length → (up f L j).Perm L
  | 0, _, _, _ => List.Perm.refl _
  | f + 1, L, j, h => by
    unfold up
    split
    · exact List.Perm.refl _
    · split
      · exact (up_perm f _ _ (by rw [sw_len]; omega)).trans (sw_perm (by omega) h)
      · exact List.Perm.refl _
theorem down_len : ∀ (f : Nat) (L : List OB) (i n : Nat), (down f L i n).length = L.length
  | 0, _, _, _ => rfl
  | f + 1, L, i, n => by
    unfold down
    split
    · split
      · rw [down_len f, sw_len]
      · rfl
    · rfl
theorem down_perm : ∀ (f : Nat) (L : List OB) (i n : Nat), i < n → n ≤ L.length → (down f L i n).Perm L
  | 0, _, _, _, _, _ => List.Perm.refl _
  | f + 1, L, i, n, h, h2 => by
    unfold down
    split
    · split
      · rename_i h3 h4
        have hj : (chd L i n) < n := by unfold chd; split <;> omega
        generalize (chd L i n) = j at *
        exact (down_perm f _ _ _ hj (by rw [sw_len]; exact h2)).trans (sw_perm (by omega) (by omega))
      · exact List.Perm.refl _
    · exact List.Perm.refl _
/-- What lies at n and behind stays. -/
theorem down_last : ∀ (f : Nat) (L : List OB) (i n : Nat), i < n → n ≤ L.length → ∀ k, n ≤ k → g (down f L i n) k = g L k
  | 0, _, _, _, _, _ => fun _ _ => rfl
  | f + 1, L, i, n, h, h2 => by
    intro k hk
    unfold down
    split
    · split
      · rename_i h3 h4
        have hj : (chd L i n) < n := by unfold chd; split <;> omega
        generalize (chd L i n) = j at *
        rw [down_last f _ _ _ hj (by rw [sw_len]; exact h2) k hk, g_sw (by omega) (by omega), if_neg (by omega), if_neg (by omega)]
      · rfl
    · rfl
def Heap (L : List OB) (n : Nat) : Prop := ∀ k, 0 < k → k < n → ltb (g L k) (g L ((k - 1) / 2)) = false
theorem heap_least {L : List OB} {n : Nat} (h : Heap L n) : ∀ k, k < n → ltb (g L k) (g L 0) = false := by
  intro k
  induction k using Nat.strongRecOn with
  | _ k ih =>
    intro hk
    by_cases h0 : k = 0
    · subst h0
      rw [← Bool.not_eq_true, ltb_def]; omega
    · exact ltb_irr (ih ((k - 1) / 2) (by omega) (by omega)) (h k (by omega) hk)
theorem up_heap : ∀ (f : Nat) (L : List OB) (j n : Nat), j < f → j < n → n ≤ L.length →
    (∀ k, 0 < k → k < n → k ≠ j → ltb (g L k) (g L ((k - 1) / 2)) = false) →
    (∀ k, 0 < k → k < n → (k - 1) / 2 = j → 0 < j → ltb (g L k) (g L ((j - 1) / 2)) = false) → Heap (up f L j) n
  | 0, _, _, _, hf, _, _, _, _ => absurd hf (Nat.not_lt_zero _)
  | f + 1, L, j, n, hf, hj, hn, h1, h2 => by
    unfold up
    split
    · intro k k0 kn
      exact h1 k k0 kn (by omega)
    · rename_i hne
      split
      · rename_i hlt
        have j0 : 0 < j := by omega
        have hi : (j - 1) / 2 < L.length := by omega
        have hjl : j < L.length := by omega
        have G := g_sw hi hjl
        refine up_heap f _ _ _ (by omega) (by omega) (by rw [sw_len]; exact hn) ?_ ?_
        · intro k k0 kn kne
          rw [G, G]
          by_cases e1 : k = j
          · subst e1
            rw [if_pos rfl, if_neg (by omega), if_pos rfl]
            exact ltb_asym hlt
          · rw [if_neg e1, if_neg kne]
            by_cases e2 : (k - 1) / 2 = j
            · rw [if_pos e2]; exact h2 k k0 kn e2 j0
            · rw [if_neg e2]
              by_cases e3 : (k - 1) / 2 = (j - 1) / 2
              · rw [if_pos e3]
                have a := h1 k k0 kn e1
                rw [e3] at a
                exact ltb_irr (ltb_asym hlt) a
              · rw [if_neg e3]; exact h1 k k0 kn e1
        · intro k k0 kn e1 i0
          rw [G, G]
          rw [if_neg (show ((j - 1) / 2 - 1) / 2 ≠ j by omega), if_neg (show ((j - 1) / 2 - 1) / 2 ≠ (j - 1) / 2 by omega)]
          have hp := h1 ((j - 1) / 2) i0 (by omega) (by omega)
          by_cases e2 : k = j
          · rw [if_pos e2]; exact hp
          · rw [if_neg e2, if_neg (by omega)]
            have a := h1 k k0 kn e2
            rw [e1] at a
            exact ltb_irr hp a
      · rename_i hlt
        intro k k0 kn
        by_cases e : k = j
        · subst e; simpa using hlt
        · exact h1 k k0 kn e
theorem down_heap : ∀ (f : Nat) (L : List OB) (i n : Nat), n < f + i → n ≤ L.length →
    (∀ k, 0 < k → k < n → (k - 1) / 2 ≠ i → ltb (g L k) (g L ((k - 1) / 2)) = false) →
    (∀ k, 0 < k → k < n → (k - 1) / 2 = i → 0 < i → ltb (g L k) (g L ((i - 1) / 2)) = false) → Heap (down f L i n) n
  | 0, L, i, n, hf, _, h1, _ => fun k k0 kn => h1 k k0 kn (by omega)
  | f + 1, L, i, n, hf, hn, h1, h2 => by
    unfold down
    split
    · rename_i hc
      have hj : (chd L i n) < n ∧ ((chd L i n) - 1) / 2 = i ∧ i < (chd L i n) := by unfold chd; split <;> omega
      have hm : ∀ k, 0 < k → k < n → (k - 1) / 2 = i → ltb (g L k) (g L (chd L i n)) = false := by
        intro k k0 kn e
        have self : ∀ p, ltb p p = false := fun p => by rw [← Bool.not_eq_true, ltb_def]; omega
        have ke : k = 2 * i + 1 ∨ k = 2 * i + 2 := by omega
        unfold chd
        split
        · rename_i q
          rcases ke with rfl | rfl
          · exact ltb_asym q.2
          · exact self _
        · rename_i q
          rcases ke with rfl | rfl
          · exact self _
          · rw [← Bool.not_eq_true]; exact fun h => q ⟨kn, h⟩
      generalize (chd L i n) = j at *
      obtain ⟨j1, j2, j3⟩ := hj
      split
      · rename_i hlt
        have G := g_sw (show i < L.length by omega) (show j < L.length by omega)
        refine down_heap f _ _ _ (by omega) (by rw [sw_len]; exact hn) ?_ ?_
        · intro k k0 kn kne
          rw [G, G]
          by_cases e1 : k = j
          · subst e1
            rw [if_pos rfl, if_neg (by omega), if_pos j2]
            exact ltb_asym hlt
          · rw [if_neg e1, if_neg kne]
            by_cases e2 : k = i
            · subst e2
              rw [if_pos rfl, if_neg (by omega)]
              exact h2 j (by omega) j1 j2 k0
            · rw [if_neg e2]
              by_cases e3 : (k - 1) / 2 = i
              · rw [if_pos e3]; exact hm k k0 kn e3
              · rw [if_neg e3]; exact h1 k k0 kn e3
        · intro k k0 kn e1 i0
          rw [G, G]
          rw [if_neg (show k ≠ j by omega), if_neg (show k ≠ i by omega), if_neg (show (j - 1) / 2 ≠ j by omega), if_pos j2]
          have a := h1 k k0 kn (by omega)
          rw [e1] at a
          exact a
      · rename_i hlt
        intro k k0 kn
        by_cases e : (k - 1) / 2 = i
        · rw [e]; exact ltb_irr (by simpa using hlt) (hm k k0 kn e)
        · exact h1 k k0 kn e
    · intro k k0 kn
      exact h1 k k0 kn (by omega)
def push (L : List OB) (x : OB) : List OB := up (L.length + 1) (L ++ [x]) L.length
def popd (L : List OB) : List OB := down L.length (sw L 0 (L.length - 1)) 0 (L.length - 1)
def pop (L : List OB) : List OB := (popd L).take (L.length - 1)
theorem g_snoc {L : List OB} {x : OB} {k : Nat} (h : k < L.length) : g (L ++ [x]) k = g L k := by
  unfold g; rw [List.getD_eq_getElem?_getD, List.getElem?_append_left h, List.getD_eq_getElem?_getD]
theorem push_len (L : List OB) (x : OB) : (push L x).length = L.length + 1 := by unfold push; rw [up_len]; simp
theorem push_perm (L : List OB) (x : OB) : (push L x).Perm (x :: L) := (up_perm _ _ _ (by simp)).trans (List.perm_append_comm.trans (List.Perm.refl _))
theorem push_heap {L : List OB} (x : OB) (h : Heap L L.length) : Heap (push L x) (push L x).length := by
  rw [push_len]
  refine up_heap _ _ _ _ (by omega) (by omega) (by simp) ?_ ?_
  · intro k k0 kn kne
    rw [g_snoc (by omega), g_snoc (by omega)]
    exact h k k0 (by omega)
  · intro k k0 kn e1 e2
    omega
theorem popd_len (L : List OB) : (popd L).length = L.length := by unfold popd; rw [down_len, sw_len]
theorem pop_len (L : List OB) : (pop L).length = L.length - 1 := by unfold pop; rw [List.length_take, popd_len]; omega
theorem pop_heap {L : List OB} (h0 : 0 < L.length) (h : Heap L L.length) : Heap (pop L) (pop L).length := by
  have hd : Heap (popd L) (L.length - 1) := by
    refine down_heap _ _ _ _ (by omega) (by rw [sw_len]; omega) ?_ ?_
    · intro k k0 kn kne
      rw [g_sw h0 (by omega), g_sw h0 (by omega), if_neg (by omega), if_neg (by omega), if_neg (by omega), if_neg kne]
      exact h k k0 (by omega)
    · intro k k0 kn e1 e2; omega
  rw [pop_len]
  intro k k0 kn
  have t : ∀ j, j < L.length - 1 → g (pop L) j = g (popd L) j := by
    intro j hj
    unfold pop g
    rw [List.getD_eq_getElem?_getD, List.getElem?_take, if_pos hj, List.getD_eq_getElem?_getD]
  rw [t k kn, t _ (by omega)]
  exact hd k k0 kn
theorem popd_last {L : List OB} (h0 : 0 < L.length) : g (popd L) (L.length - 1) = g L 0 := by
  unfold popd
  by_cases h1 : L.length = 1
  · rw [h1]
    have : down 1 (sw L 0 (1 - 1)) 0 (1 - 1) = sw L 0 (1 - 1) := by unfold down; simp
    rw [this, g_sw h0 (by omega)]; simp
  · rw [down_last _ _ _ _ (by omega) (by rw [sw_len]; omega) _ (Nat.le_refl _), g_sw h0 (by omega)]; simp
theorem popd_perm {L : List OB} (h0 : 0 < L.length) : (popd L).Perm L := by
  unfold popd
  by_cases h1 : L.length = 1
  · rw [h1]
    have : down 1 (sw L 0 (1 - 1)) 0 (1 - 1) = sw L 0 (1 - 1) := by unfold down; simp
    rw [this]; exact sw_perm h0 (by omega)
  · exact (down_perm _ _ _ _ (by omega) (by rw [sw_len]; omega)).trans (sw_perm h0 (by omega))
theorem pop_perm {L : List OB} (h0 : 0 < L.length) : L.Perm (g L 0 :: pop L) := by
  have h1 : (pop L) ++ [g (popd L) (L.length - 1)] = popd L := by
    unfold pop g
    have hl := popd_len L
    rw [List.getD_eq_getElem?_getD, List.getElem?_eq_getElem (by omega), Option.getD_some, ← List.take_succ_eq_append_getElem (by omega), List.take_of_length_le (by omega)]
  rw [popd_last h0] at h1
  have h2 := popd_perm h0
  rw [← h1] at h2
  exact h2.symm.trans List.perm_append_comm
/-- A box. -/
structure Bx where
  a : Int
  b : Int
  c : Int
  d : Int
  e : Int
  f : Int
def OB.bx (o : OB) : Bx := ⟨o.a, o.b, o.c, o.d, o.e, o.f⟩
/-- A point. -/
abbrev P3 := Int × Int × Int
def np (B : Bx) : Int := (B.d - B.a + 1) * (B.e - B.b + 1) * (B.f - B.c + 1)
structure Sb (R B : Bx) : Prop where
  a : R.a ≤ B.a
  b : R.b ≤ B.b
  c : R.c ≤ B.c
  d : B.d ≤ R.d
  e : B.e ≤ R.e
  f : B.f ≤ R.f
  x : B.a ≤ B.d
  y : B.b ≤ B.e
  z : B.c ≤ B.f
theorem Sb.trans {R B C : Bx} (h : Sb R B) (k : Sb B C) : Sb R C := by
  obtain ⟨h1, h2, h3, h4, h5, h6, _, _, _⟩ := h
  obtain ⟨k1, k2, k3, k4, k5, k6, k7, k8, k9⟩ := k
  exact ⟨by omega, by omega, by omega, by omega, by omega, by omega, k7, k8, k9⟩
def inB (B : Bx) (p : P3) : Prop := B.a ≤ p.1 ∧ p.1 ≤ B.d ∧ B.b ≤ p.2.1 ∧ p.2.1 ≤ B.e ∧ B.c ≤ p.2.2 ∧ p.2.2 ≤ B.f
theorem inB_sub {R B : Bx} (h : Sb R B) {p : P3} (k : inB B p) : inB R p := by
  obtain ⟨h1, h2, h3, h4, h5, h6, _, _, _⟩ := h
  unfold inB at *; omega
def one (B : Bx) : Bool := decide (B.a = B.d ∧ B.b = B.e ∧ B.c = B.f)
def cen (B : Bx) : P3 := (B.a + (B.d - B.a) / 2, B.b + (B.e - B.b) / 2, B.c + (B.f - B.c) / 2)
theorem cen_in {R B : Bx} (h : Sb R B) : inB B (cen B) := by
  have := h.x; have := h.y; have := h.z
  unfold inB cen; simp only; omega
theorem np_pos {R B : Bx} (h : Sb R B) : 1 ≤ np B := by
  have h1 := h.x; have h2 := h.y; have h3 := h.z
  have a : 0 < (B.d - B.a + 1) * (B.e - B.b + 1) := Int.mul_pos (by omega) (by omega)
  have b : 0 < (B.d - B.a + 1) * (B.e - B.b + 1) * (B.f - B.c + 1) := Int.mul_pos a (by omega)
  unfold np; omega
/-- What a search asks: the bounds, the misfits, the halves. -/
structure Ask where
  F : Bx → Int
  G : P3 → Int × Int
  S : Bx → Bx × Bx
/-- The state of a search. -/
structure St where
  op : List OB
  nx : Int
  tk : Int
  fd : Bool
  x : Int
  y : Int
  z : Int
  t : Int
  m : Int
def lex3 (p q : P3) : Bool := if p.1 = q.1 then (if p.2.1 = q.2.1 then decide (p.2.2 < q.2.2) else decide (p.2.1 < q.2.1)) else decide (p.1 < q.1)
def better (C : Ask) (s : St) (p : P3) : Bool := !s.fd || decide ((C.G p).2 < s.m) || (decide ((C.G p).2 = s.m) && lex3 p (s.x, s.y, s.z))
def consider (C : Ask) (s : St) (p : P3) : St := if better C s p = true then { s with fd := true, x := p.1, y := p.2.1, z := p.2.2, t := (C.G p).1, m := (C.G p).2 } else s
def add (C : Ask) (s : St) (B : Bx) : St := { s with op := push s.op ⟨B.a, B.b, B.c, B.d, B.e, B.f, C.F B, s.nx⟩, nx := s.nx + 1 }
def first (s : St) : St := { s with tk := s.tk + 1, op := pop s.op }
def take (C : Ask) (s : St) : St :=
  if one (g s.op 0).bx = true then consider C (first s) (cen (g s.op 0).bx)
  else add C (add C (consider C (first s) (cen (g s.op 0).bx)) (C.S (g s.op 0).bx).1) (C.S (g s.op 0).bx).2
def ended (tol : Int) (s : St) : Bool := decide (s.op.length = 0) || (s.fd && decide (s.m - (g s.op 0).bd ≤ tol))
def run (C : Ask) (tol : Int) : Nat → St → St
  | 0, s => s
  | k + 1, s => if ended tol s = true then s else run C tol k (take C s)
def start : St := ⟨[], 0, 0, false, 0, 0, 0, 0, 0⟩
/-- What the search leans on. -/
structure Good (C : Ask) (R : Bx) : Prop where
  rv : Sb R R
  sp : ∀ B, Sb R B → one B = false → Sb B (C.S B).1 ∧ Sb B (C.S B).2 ∧ np (C.S B).1 + np (C.S B).2 = np B ∧ ∀ p, inB B p → inB (C.S B).1 p ∨ inB (C.S B).2 p
def wgt (L : List OB) : Int := (L.map fun o => 2 * np o.bx - 1).sum
theorem wgt_perm {L M : List OB} (h : L.Perm M) : wgt L = wgt M := by
  unfold wgt
  induction h with
  | nil => rfl
  | cons a _ ih => simp [ih]
  | swap a b l => simp; omega
  | trans _ _ h1 h2 => exact h1.trans h2
theorem wgt_cons (o : OB) (L : List OB) : wgt (o :: L) = 2 * np o.bx - 1 + wgt L := by simp [wgt]
structure Inv (C : Ask) (R : Bx) (s : St) : Prop where
  heap : Heap s.op s.op.length
  box : ∀ o ∈ s.op, Sb R o.bx ∧ o.bd = C.F o.bx
  cov : ∀ p, inB R p → (∃ o ∈ s.op, inB o.bx p) ∨ (s.fd = true ∧ s.m ≤ (C.G p).2)
  bst : s.fd = true → inB R (s.x, s.y, s.z) ∧ C.G (s.x, s.y, s.z) = (s.t, s.m)
  pot : wgt s.op + s.tk = 2 * np R - 1
  tk0 : 0 ≤ s.tk
  nx0 : 0 ≤ s.nx
  nx9 : s.nx ≤ 2 * s.tk + 1
theorem g_mem {L : List OB} {k : Nat} (h : k < L.length) : g L k ∈ L := by
  unfold g; rw [List.getD_eq_getElem?_getD, List.getElem?_eq_getElem h]; exact List.getElem_mem h
theorem inv_add {C : Ask} {R : Bx} {s : St} {B : Bx} (hS : Sb R B) (heap : Heap s.op s.op.length) (box : ∀ o ∈ s.op, Sb R o.bx ∧ o.bd = C.F o.bx) :
    Heap (add C s B).op (add C s B).op.length ∧ (∀ o ∈ (add C s B).op, Sb R o.bx ∧ o.bd = C.F o.bx) ∧ wgt (add C s B).op = wgt s.op + (2 * np B - 1) ∧ (∀ o ∈ s.op, o ∈ (add C s B).op) ∧ (∃ o ∈ (add C s B).op, o.bx = B) := by
  have hp := push_perm s.op ⟨B.a, B.b, B.c, B.d, B.e, B.f, C.F B, s.nx⟩
  refine ⟨push_heap _ heap, fun o ho => ?_, ?_, fun o ho => ?_, ?_⟩
  · rcases List.mem_cons.1 (hp.mem_iff.1 ho) with rfl | h
    · exact ⟨hS, rfl⟩
    · exact box o h
  · show wgt (push _ _) = _
    rw [wgt_perm hp, wgt_cons]; show 2 * np B - 1 + _ = _; omega
  · exact hp.mem_iff.2 (List.mem_cons_of_mem _ ho)
  · exact ⟨_, hp.mem_iff.2 (List.mem_cons_self ..), rfl⟩
theorem start_inv {C : Ask} {R : Bx} (h : Good C R) : Inv C R (add C start R) := by
  obtain ⟨h1, h2, h3, h4, o, h5, h6⟩ := inv_add (C := C) (R := R) (s := start) h.rv (fun k k0 kn => absurd kn (Nat.not_lt_zero _)) (fun o ho => by simp [start] at ho)
  exact ⟨h1, h2, fun p hp => .inl ⟨o, h5, by rw [h6]; exact hp⟩, fun e => by simp [add, start] at e, by rw [h3]; simp [start, wgt, add], by simp [add, start], by simp [add, start], by simp [add, start]⟩
theorem consider_op (C : Ask) (s : St) (p : P3) : (consider C s p).op = s.op ∧ (consider C s p).nx = s.nx ∧ (consider C s p).tk = s.tk ∧ (consider C s p).fd = true := by
  unfold consider better
  split
  · exact ⟨rfl, rfl, rfl, rfl⟩
  · rename_i h
    cases hf : s.fd <;> simp [hf] at h ⊢
theorem consider_le (C : Ask) (s : St) (p : P3) : (consider C s p).m ≤ (C.G p).2 ∧ (s.fd = true → (consider C s p).m ≤ s.m) := by
  unfold consider better
  split
  · rename_i h
    refine ⟨Int.le_refl _, fun hf => ?_⟩
    simp [hf] at h
    show (C.G p).2 ≤ s.m
    rcases h with h | h <;> omega
  · rename_i h
    cases hf : s.fd <;> simp [hf] at h
    exact ⟨by omega, fun _ => Int.le_refl _⟩
theorem consider_bst {C : Ask} {R : Bx} {s : St} {p : P3} (hp : inB R p) (h : s.fd = true → inB R (s.x, s.y, s.z) ∧ C.G (s.x, s.y, s.z) = (s.t, s.m)) :
    inB R ((consider C s p).x, (consider C s p).y, (consider C s p).z) ∧ C.G ((consider C s p).x, (consider C s p).y, (consider C s p).z) = ((consider C s p).t, (consider C s p).m) := by
  have hf := (consider_op C s p).2.2.2
  unfold consider at *
  split
  · exact ⟨hp, rfl⟩
  · rename_i hb
    rw [if_neg hb] at hf
    exact h hf
theorem one_np {B : Bx} (h : one B = true) : np B = 1 := by
  unfold one at h; simp at h
  obtain ⟨h1, h2, h3⟩ := h
  unfold np; rw [h1, h2, h3]; simp
theorem take_inv {C : Ask} {R : Bx} (h : Good C R) {s : St} (i : Inv C R s) (h0 : s.op.length ≠ 0) : Inv C R (take C s) ∧ (take C s).tk = s.tk + 1 ∧ (take C s).fd = true := by
  have h0' : 0 < s.op.length := by omega
  have hpm := pop_perm h0'
  have hg := i.box _ (g_mem h0')
  have hw := wgt_perm hpm
  rw [wgt_cons] at hw
  have hpb : ∀ o ∈ pop s.op, Sb R o.bx ∧ o.bd = C.F o.bx := fun o ho => i.box o (hpm.mem_iff.2 (List.mem_cons_of_mem _ ho))
  have hph := pop_heap h0' i.heap
  obtain ⟨c1, c2, c3, c4⟩ := consider_op C (first s) (cen (g s.op 0).bx)
  obtain ⟨c5, c6⟩ := consider_le C (first s) (cen (g s.op 0).bx)
  have c7 := consider_bst (C := C) (s := first s) (inB_sub hg.1 (cen_in hg.1)) i.bst
  have hnx := i.nx0
  have hnx9 := i.nx9
  have htk := i.tk0
  have hpo := i.pot
  generalize hb : (g s.op 0).bx = B at *
  generalize hs1 : consider C (first s) (cen B) = s1 at *
  have e1 : s1.op = pop s.op := c1
  have e2 : s1.nx = s.nx := c2
  have e3 : s1.tk = s.tk + 1 := c3
  have hcov : ∀ p, inB R p → (∃ o ∈ pop s.op, inB o.bx p) ∨ inB B p ∨ (s1.fd = true ∧ s1.m ≤ (C.G p).2) := by
    intro p hp
    rcases i.cov p hp with ⟨o, ho, hin⟩ | ⟨hf, hm⟩
    · rcases List.mem_cons.1 (hpm.mem_iff.1 ho) with rfl | h'
      · exact .inr (.inl (by rw [hb] at hin; exact hin))
      · exact .inl ⟨o, h', hin⟩
    · exact .inr (.inr ⟨c4, Int.le_trans (c6 hf) hm⟩)
  unfold take
  rw [hb, hs1]
  by_cases ho : one B = true
  · rw [if_pos ho]
    refine ⟨⟨by rw [e1]; exact hph, by rw [e1]; exact hpb, fun p hp => ?_, fun _ => c7, ?_, by omega, by omega, by omega⟩, e3, c4⟩
    · rw [e1]
      rcases hcov p hp with h1 | h1 | h1
      · exact .inl h1
      · refine .inr ⟨c4, ?_⟩
        have : p = cen B := by
          unfold one at ho; simp at ho
          obtain ⟨k1, k2, k3⟩ := ho
          unfold inB at h1; unfold cen
          refine Prod.ext ?_ (Prod.ext ?_ ?_) <;> simp only <;> omega
        rw [this]; exact c5
      · exact .inr h1
    · rw [e1, e3]; have := one_np ho; omega
  · rw [if_neg ho]
    have ho' : one B = false := by simpa using ho
    obtain ⟨q1, q2, q3, q4⟩ := h.sp B hg.1 ho'
    obtain ⟨a1, a2, a3, a4, o1, a5, a6⟩ := inv_add (C := C) (s := s1) (hg.1.trans q1) (by rw [e1]; exact hph) (by rw [e1]; exact hpb)
    obtain ⟨b1, b2, b3, b4, o2, b5, b6⟩ := inv_add (C := C) (s := add C s1 (C.S B).1) (hg.1.trans q2) a1 a2
    refine ⟨⟨b1, b2, fun p hp => ?_, fun _ => c7, ?_, ?_, ?_, ?_⟩, e3, c4⟩
    · rcases hcov p hp with ⟨o, h1, h2⟩ | h1 | h1
      · exact .inl ⟨o, b4 o (a4 o (by rw [e1]; exact h1)), h2⟩
      · rcases q4 p h1 with h2 | h2
        · exact .inl ⟨o1, b4 o1 a5, by rw [a6]; exact h2⟩
        · exact .inl ⟨o2, b5, by rw [b6]; exact h2⟩
      · exact .inr h1
    · rw [b3, a3, e1]; show _ + s1.tk = _; rw [e3]; omega
    · show 0 ≤ s1.tk; omega
    · show 0 ≤ s1.nx + 1 + 1; omega
    · show s1.nx + 1 + 1 ≤ 2 * s1.tk + 1; omega
end Loc
end Go.Proofs.Ytldgihlhioeipaa

/- The search by branch and bound: what its result says. -/
set_option linter.unusedVariables false
namespace Go.Proofs.Ytldgihlhioeipaa
namespace Loc
/-- The least box around two. -/
def hull (A B : Bx) : Bx := ⟨min A.a B.a, min A.b B.b, min A.c B.c, max A.d B.d, max A.e B.e, max A.f B.f⟩
def lowF (m : Int) (L : List OB) : Int := L.foldl (fun l o => min l o.bd) m
def areaF (m : Int) (A : Bx) (L : List OB) : Bx := L.foldl (fun A o => if o.bd < m then hull A o.bx else A) A
theorem hull_sub {R A B : Bx} (h : Sb R A) (k : Sb R B) : Sb R (hull A B) := by
  obtain ⟨h1, h2, h3, h4, h5, h6, h7, h8, h9⟩ := h
  obtain ⟨k1, k2, k3, k4, k5, k6, k7, k8, k9⟩ := k
  unfold hull
  exact ⟨by simp only; omega, by simp only; omega, by simp only; omega, by simp only; omega, by simp only; omega, by simp only; omega, by simp only; omega, by simp only; omega, by simp only; omega⟩
theorem hull_l {A B : Bx} {p : P3} (h : inB A p) : inB (hull A B) p := by unfold inB hull at *; simp only; omega
theorem hull_r {A B : Bx} {p : P3} (h : inB B p) : inB (hull A B) p := by unfold inB hull at *; simp only; omega
theorem areaF_all (m : Int) {R : Bx} (L : List OB) : ∀ A, Sb R A → (∀ o ∈ L, Sb R o.bx) → Sb R (areaF m A L) ∧ (∀ p, inB A p → inB (areaF m A L) p) ∧ ∀ o ∈ L, o.bd < m → ∀ p, inB o.bx p → inB (areaF m A L) p := by
  induction L with
  | nil => intro A h _; exact ⟨h, fun _ h => h, fun o ho => by simp at ho⟩
  | cons o L ih =>
    intro A h hL
    have e : areaF m A (o :: L) = areaF m (if o.bd < m then hull A o.bx else A) L := rfl
    have hA : Sb R (if o.bd < m then hull A o.bx else A) := by split; exact hull_sub h (hL o (List.mem_cons_self ..)); exact h
    obtain ⟨h1, h2, h3⟩ := ih _ hA fun q hq => hL q (List.mem_cons_of_mem _ hq)
    rw [e]
    refine ⟨h1, fun p hp => h2 p ?_, fun q hq hb p hp => ?_⟩
    · split; exact hull_l hp; exact hp
    · rcases List.mem_cons.1 hq with rfl | h'
      · exact h2 p (by rw [if_pos hb]; exact hull_r hp)
      · exact h3 q h' hb p hp
def pb (p : P3) : Bx := ⟨p.1, p.2.1, p.2.2, p.1, p.2.1, p.2.2⟩
theorem pb_sub {R : Bx} {p : P3} (h : inB R p) : Sb R (pb p) := by
  unfold inB at h; unfold pb
  exact ⟨by simp only; omega, by simp only; omega, by simp only; omega, by simp only; omega, by simp only; omega, by simp only; omega, Int.le_refl _, Int.le_refl _, Int.le_refl _⟩
/-- What the result of a search that has ended says. -/
structure Fin (C : Ask) (R : Bx) (tol : Int) (s : St) : Prop where
  inR : inB R (s.x, s.y, s.z)
  at_ : C.G (s.x, s.y, s.z) = (s.t, s.m)
  lo1 : lowF s.m s.op ≤ s.m
  lo2 : s.m - lowF s.m s.op ≤ tol
  sub : Sb R (areaF s.m (pb (s.x, s.y, s.z)) s.op)
  inA : inB (areaF s.m (pb (s.x, s.y, s.z)) s.op) (s.x, s.y, s.z)
  all : ∀ p, inB R p → lowF s.m s.op ≤ (C.G p).2 ∧ ((C.G p).2 < s.m → inB (areaF s.m (pb (s.x, s.y, s.z)) s.op) p)
end Loc
end Go.Proofs.Ytldgihlhioeipaa

/- Rows of open boxes; queue.Len, queue.Less. -/
set_option linter.unusedVariables false
set_option linter.unusedSimpArgs false
namespace Go.Proofs.Ytldgihlhioeipaa
open Go.RowKit
namespace Loc
end Loc
end Go.Proofs.Ytldgihlhioeipaa

/- queue.Swap. -/
set_option linter.unusedVariables false
set_option linter.unusedSimpArgs false
namespace Go.Proofs.Ytldgihlhioeipaa
open Go.RowKit
namespace Loc
theorem setMany_size : ∀ (vs : List Value) (cs : Array Value) (o : Nat), (Mid.setMany cs o vs).size = cs.size
  | [], _, _ => rfl
  | v :: r, cs, o => by unfold Mid.setMany; rw [setMany_size r]; simp
theorem setMany_get : ∀ (vs : List Value) (cs : Array Value) (o p : Nat), o + vs.length ≤ cs.size → (Mid.setMany cs o vs)[p]? = if o ≤ p ∧ p < o + vs.length then vs[p - o]? else cs[p]?
  | [], _, _, _, _ => by unfold Mid.setMany; rw [if_neg (by simp only [List.length_nil]; omega)]
  | v :: r, cs, o, p, h => by
    simp only [List.length_cons] at h ⊢
    unfold Mid.setMany
    rw [setMany_get r _ _ _ (by simp only [Array.size_setIfInBounds]; omega)]
    by_cases h1 : p = o
    · subst h1
      rw [if_neg (by omega), if_pos (by omega), Array.getElem?_setIfInBounds_self_of_lt (by omega)]
      simp
    · by_cases h2 : o + 1 ≤ p ∧ p < o + 1 + r.length
      · rw [if_pos h2, if_pos (by omega), show p - o = (p - (o + 1)) + 1 by omega]
        simp
      · rw [if_neg h2, if_neg (by omega), Array.getElem?_setIfInBounds_ne (by omega)]
theorem grown_low {w w' : World} {r : Option Nat} (hb : Below w.heap.size w w') : w.grownBy w' r := ⟨hb.os, hb.tape, hb.output, hb.size, fun k hk _ => hb.block k hk⟩
end Loc
end Go.Proofs.Ytldgihlhioeipaa

/- queue.Push. -/
set_option linter.unusedVariables false
set_option linter.unusedSimpArgs false
namespace Go.Proofs.Ytldgihlhioeipaa
open Go.RowKit
namespace Loc
theorem below_grown {B : Nat} {A w' : World} {row : Option Nat} (h : A.grownBy w' row) (hB : B ≤ A.heap.size) (hr : ∀ k, row = some k → B ≤ k) : Below B A w' :=
  ⟨h.os, h.tape, h.output, h.size, fun k hk => h.block k (by omega) (fun e => by have := hr k e.symm; omega)⟩
end Loc
end Go.Proofs.Ytldgihlhioeipaa

/- container/heap: up, Push. -/
set_option linter.unusedVariables false
set_option linter.unusedSimpArgs false
namespace Go.Proofs.Ytldgihlhioeipaa
open Go.RowKit
namespace Loc
section
variable {A w w' : World} {S : Nat} {C : Value → Array Value} {v : Value} {L M : List OB} {b n c : Nat}
end
end Loc
end Go.Proofs.Ytldgihlhioeipaa

/- container/heap: down, Pop; queue.Pop. -/
set_option linter.unusedVariables false
set_option linter.unusedSimpArgs false
namespace Go.Proofs.Ytldgihlhioeipaa
open Go.RowKit
namespace Loc
end Loc
end Go.Proofs.Ytldgihlhioeipaa

/- queue.Pop; container/heap.Pop. -/
set_option linter.unusedVariables false
set_option linter.unusedSimpArgs false
namespace Go.Proofs.Ytldgihlhioeipaa
open Go.RowKit
namespace Loc
end Loc
end Go.Proofs.Ytldgihlhioeipaa
