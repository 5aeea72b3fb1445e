/- LocMF: texts joined. -/
import Derived.Lib.Hide
import Derived.Test.YtldgihlhioeipaaGreatMisA
import Derived.Test.YtldgihlhioeipaaGreatResMid
import Derived.BigQuiet
import Derived.Deep.QuietTactic
import Derived.Test.YtldgihlhioeipaaGreatInvAB
import Derived.Deep.DeepCutAuto
/- The search by branch and bound: the mathematics of its queue. -/
set_option linter.unusedVariables false
namespace Go.Proofs.YtldgihlhioeipaaGreat
namespace Loc
/-- An open box: its ends, its bound, its number. -/
structure OB where
  a : Int
  b : Int
  c : Int
  d : Int
  e : Int
  f : Int
  bd : Int
  nr : Int
def ob0 : OB := ⟨0, 0, 0, 0, 0, 0, 0, 0⟩
def ltb (p q : OB) : Bool := if p.bd = q.bd then decide (p.nr < q.nr) else decide (p.bd < q.bd)
theorem ltb_def (p q : OB) : ltb p q = true ↔ p.bd < q.bd ∨ p.bd = q.bd ∧ p.nr < q.nr := by
  unfold ltb; split <;> simp <;> omega
theorem ltb_irr {p q r : OB} (h1 : ltb q p = false) (h2 : ltb r q = false) : ltb r p = false := by
  have a := ltb_def q p; have b := ltb_def r q; have c := ltb_def r p
  rw [← Bool.not_eq_true] at *
  rw [a] at h1; rw [b] at h2; rw [c]; omega
theorem ltb_asym {p q : OB} (h : ltb p q = true) : ltb q p = false := by
  have a := ltb_def q p; have b := ltb_def p q
  rw [← Bool.not_eq_true]
  rw [b] at h; rw [a]; omega
def g (L : List OB) (k : Nat) : OB := L.getD k ob0
def sw (L : List OB) (i j : Nat) : List OB := (L.set i (g L j)).set j (g L i)
theorem sw_len (L : List OB) (i j : Nat) : (sw L i j).length = L.length := by simp [sw]
theorem g_sw {L : List OB} {i j : Nat} (hi : i < L.length) (hj : j < L.length) (k : Nat) : g (sw L i j) k = if k = j then g L i else if k = i then g L j else g L k := by
  unfold sw g
  simp only [List.getD_eq_getElem?_getD, List.getElem?_set, List.length_set]
  by_cases h1 : k = j
  · subst h1; simp [hj]
  · by_cases h2 : k = i
    · subst h2; simp [hi, h1, Ne.symm h1]
    · simp [h1, h2, Ne.symm h1, Ne.symm h2]
theorem sw_perm {L : List OB} {i j : Nat} (hi : i < L.length) (hj : j < L.length) : (sw L i j).Perm L := by
  unfold sw g
  simp only [List.getD_eq_getElem?_getD, List.getElem?_eq_getElem hi, List.getElem?_eq_getElem hj, Option.getD_some]
  exact List.set_set_perm hi hj
/-- From the last one up. -/
def up : Nat → List OB → Nat → List OB
  | 0, L, _ => L
  | f + 1, L, j => if (j - 1) / 2 = j then L else if ltb (g L j) (g L ((j - 1) / 2)) = true then up f (sw L ((j - 1) / 2) j) ((j - 1) / 2) else L
/-- The child that goes ahead. -/
def chd (L : List OB) (i n : Nat) : Nat := if 2 * i + 2 < n ∧ ltb (g L (2 * i + 2)) (g L (2 * i + 1)) = true then 2 * i + 2 else 2 * i + 1
/-- From i down, among the first n. -/
def down : Nat → List OB → Nat → Nat → List OB
  | 0, L, _, _ => L
  | f + 1, L, i, n => if 2 * i + 1 < n then
      (if ltb (g L (chd L i n)) (g L i) = true then
        down f (sw L i (chd L i n)) (chd L i n) n
      else L)
    else L
theorem up_len : ∀ (f : Nat) (L : List OB) (j : Nat), (up f L j).length = L.length
  | 0, _, _ => rfl
  | f + 1, L, j => by
    unfold up
    split
    · rfl
    · split
      · rw [up_len f, sw_len]
      · rfl
theorem up_perm : ∀ (f : Nat) (L : List OB) (j : Nat), j < L.length → (up f L j).Perm L
  | 0, _, _, _ => List.Perm.refl _
  | f + 1, L, j, h => by
    unfold up
    split
    · exact List.Perm.refl _
    · split
      · exact (up_perm f _ _ (by rw [sw_len]; omega)).trans (sw_perm (by omega) h)
      · exact List.Perm.refl _
theorem down_len : ∀ (f : Nat) (L : List OB) (i n : Nat), (down f L i n).length = L.length
  | 0, _, _, _ => rfl
  | f + 1, L, i, n => by
    unfold down
    split
    · split
      · rw [down_len f, sw_len]
      · rfl
    · rfl
theorem down_perm : ∀ (f : Nat) (L : List OB) (i n : Nat), i < n → n ≤ L.length → (down f L i n).Perm L
  | 0, _, _, _, _, _ => List.Perm.refl _
  | f + 1, L, i, n, h, h2 => by
    unfold down
    split
    · split
      · rename_i h3 h4
        have hj : (chd L i n) < n := by unfold chd; split <;> omega
        generalize (chd L i n) = j at *
        exact (down_perm f _ _ _ hj (by rw [sw_len]; exact h2)).trans (sw_perm (by omega) (by omega))
      · exact List.Perm.refl _
    · exact List.Perm.refl _
/-- What lies at n and behind stays. -/
theorem down_last : ∀ (f : Nat) (L : List OB) (i n : Nat), i < n → n ≤ L.length → ∀ k, n ≤ k → g (down f L i n) k = g L k
  | 0, _, _, _, _, _ => fun _ _ => rfl
  | f + 1, L, i, n, h, h2 => by
    intro k hk
    unfold down
    split
    · split
      · rename_i h3 h4
        have hj : (chd L i n) < n := by unfold chd; split <;> omega
        generalize (chd L i n) = j at *
        rw [down_last f _ _ _ hj (by rw [sw_len]; exact h2) k hk, g_sw (by omega) (by omega), if_neg (by omega), if_neg (by omega)]
      · rfl
    · rfl
def Heap (L : List OB) (n : Nat) : Prop := ∀ k, 0 < k → k < n → ltb (g L k) (g L ((k - 1) / 2)) = false
theorem heap_least {L : List OB} {n : Nat} (h : Heap L n) : ∀ k, k < n → ltb (g L k) (g L 0) = false := by
  intro k
  induction k using Nat.strongRecOn with
  | _ k ih =>
    intro hk
    by_cases h0 : k = 0
    · subst h0
      rw [← Bool.not_eq_true, ltb_def]; omega
    · exact ltb_irr (ih ((k - 1) / 2) (by omega) (by omega)) (h k (by omega) hk)
theorem up_heap : ∀ (f : Nat) (L : List OB) (j n : Nat), j < f → j < n → n ≤ L.length →
    (∀ k, 0 < k → k < n → k ≠ j → ltb (g L k) (g L ((k - 1) / 2)) = false) →
    (∀ k, 0 < k → k < n → (k - 1) / 2 = j → 0 < j → ltb (g L k) (g L ((j - 1) / 2)) = false) → Heap (up f L j) n
  | 0, _, _, _, hf, _, _, _, _ => absurd hf (Nat.not_lt_zero _)
  | f + 1, L, j, n, hf, hj, hn, h1, h2 => by
    unfold up
    split
    · intro k k0 kn
      exact h1 k k0 kn (by omega)
    · rename_i hne
      split
      · rename_i hlt
        have j0 : 0 < j := by omega
        have hi : (j - 1) / 2 < L.length := by omega
        have hjl : j < L.length := by omega
        have G := g_sw hi hjl
        refine up_heap f _ _ _ (by omega) (by omega) (by rw [sw_len]; exact hn) ?_ ?_
        · intro k k0 kn kne
          rw [G, G]
          by_cases e1 : k = j
          · subst e1
            rw [if_pos rfl, if_neg (by omega), if_pos rfl]
            exact ltb_asym hlt
          · rw [if_neg e1, if_neg kne]
            by_cases e2 : (k - 1) / 2 = j
            · rw [if_pos e2]; exact h2 k k0 kn e2 j0
            · rw [if_neg e2]
              by_cases e3 : (k - 1) / 2 = (j - 1) / 2
              · rw [if_pos e3]
                have a := h1 k k0 kn e1
                rw [e3] at a
                exact ltb_irr (ltb_asym hlt) a
              · rw [if_neg e3]; exact h1 k k0 kn e1
        · intro k k0 kn e1 i0
          rw [G, G]
          rw [if_neg (show ((j - 1) / 2 - 1) / 2 ≠ j by omega), if_neg (show ((j - 1) / 2 - 1) / 2 ≠ (j - 1) / 2 by omega)]
          have hp := h1 ((j - 1) / 2) i0 (by omega) (by omega)
          by_cases e2 : k = j
          · rw [if_pos e2]; exact hp
          · rw [if_neg e2, if_neg (by omega)]
            have a := h1 k k0 kn e2
            rw [e1] at a
            exact ltb_irr hp a
      · rename_i hlt
        intro k k0 kn
        by_cases e : k = j
        · subst e; simpa using hlt
        · exact h1 k k0 kn e
theorem down_heap : ∀ (f : Nat) (L : List OB) (i n : Nat), n < f + i → n ≤ L.length →
    (∀ k, 0 < k → k < n → (k - 1) / 2 ≠ i → ltb (g L k) (g L ((k - 1) / 2)) = false) →
    (∀ k, 0 < k → k < n → (k - 1) / 2 = i → 0 < i → ltb (g L k) (g L ((i - 1) / 2)) = false) → Heap (down f L i n) n
  | 0, L, i, n, hf, _, h1, _ => fun k k0 kn => h1 k k0 kn (by omega)
  | f + 1, L, i, n, hf, hn, h1, h2 => by
    unfold down
    split
    · rename_i hc
      have hj : (chd L i n) < n ∧ ((chd L i n) - 1) / 2 = i ∧ i < (chd L i n) := by unfold chd; split <;> omega
      have hm : ∀ k, 0 < k → k < n → (k - 1) / 2 = i → ltb (g L k) (g L (chd L i n)) = false := by
        intro k k0 kn e
        have self : ∀ p, ltb p p = false := fun p => by rw [← Bool.not_eq_true, ltb_def]; omega
        have ke : k = 2 * i + 1 ∨ k = 2 * i + 2 := by omega
        unfold chd
        split
        · rename_i q
          rcases ke with rfl | rfl
          · exact ltb_asym q.2
          · exact self _
        · rename_i q
          rcases ke with rfl | rfl
          · exact self _
          · rw [← Bool.not_eq_true]; exact fun h => q ⟨kn, h⟩
      generalize (chd L i n) = j at *
      obtain ⟨j1, j2, j3⟩ := hj
      split
      · rename_i hlt
        have G := g_sw (show i < L.length by omega) (show j < L.length by omega)
        refine down_heap f _ _ _ (by omega) (by rw [sw_len]; exact hn) ?_ ?_
        · intro k k0 kn kne
          rw [G, G]
          by_cases e1 : k = j
          · subst e1
            rw [if_pos rfl, if_neg (by omega), if_pos j2]
            exact ltb_asym hlt
          · rw [if_neg e1, if_neg kne]
            by_cases e2 : k = i
            · subst e2
              rw [if_pos rfl, if_neg (by omega)]
              exact h2 j (by omega) j1 j2 k0
            · rw [if_neg e2]
              by_cases e3 : (k - 1) / 2 = i
              · rw [if_pos e3]; exact hm k k0 kn e3
              · rw [if_neg e3]; exact h1 k k0 kn e3
        · intro k k0 kn e1 i0
          rw [G, G]
          rw [if_neg (show k ≠ j by omega), if_neg (show k ≠ i by omega), if_neg (show (j - 1) / 2 ≠ j by omega), if_pos j2]
          have a := h1 k k0 kn (by omega)
          rw [e1] at a
          exact a
      · rename_i hlt
        intro k k0 kn
        by_cases e : (k - 1) / 2 = i
        · rw [e]; exact ltb_irr (by simpa using hlt) (hm k k0 kn e)
        · exact h1 k k0 kn e
    · intro k k0 kn
      exact h1 k k0 kn (by omega)
def push (L : List OB) (x : OB) : List OB := up (L.length + 1) (L ++ [x]) L.length
def popd (L : List OB) : List OB := down L.length (sw L 0 (L.length - 1)) 0 (L.length - 1)
def pop (L : List OB) : List OB := (popd L).take (L.length - 1)
theorem g_snoc {L : List OB} {x : OB} {k : Nat} (h : k < L.length) : g (L ++ [x]) k = g L k := by
  unfold g; rw [List.getD_eq_getElem?_getD, List.getElem?_append_left h, List.getD_eq_getElem?_getD]
theorem push_len (L : List OB) (x : OB) : (push L x).length = L.length + 1 := by unfold push; rw [up_len]; simp
theorem push_perm (L : List OB) (x : OB) : (push L x).Perm (x :: L) := (up_perm _ _ _ (by simp)).trans (List.perm_append_comm.trans (List.Perm.refl _))
theorem push_heap {L : List OB} (x : OB) (h : Heap L L.length) : Heap (push L x) (push L x).length := by
  rw [push_len]
  refine up_heap _ _ _ _ (by omega) (by omega) (by simp) ?_ ?_
  · intro k k0 kn kne
    rw [g_snoc (by omega), g_snoc (by omega)]
    exact h k k0 (by omega)
  · intro k k0 kn e1 e2
    omega
theorem popd_len (L : List OB) : (popd L).length = L.length := by unfold popd; rw [down_len, sw_len]
theorem pop_len (L : List OB) : (pop L).length = L.length - 1 := by unfold pop; rw [List.length_take, popd_len]; omega
theorem pop_heap {L : List OB} (h0 : 0 < L.length) (h : Heap L L.length) : Heap (pop L) (pop L).length := by
  have hd : Heap (popd L) (L.length - 1) := by
    refine down_heap _ _ _ _ (by omega) (by rw [sw_len]; omega) ?_ ?_
    · intro k k0 kn kne
      rw [g_sw h0 (by omega), g_sw h0 (by omega), if_neg (by omega), if_neg (by omega), if_neg (by omega), if_neg kne]
      exact h k k0 (by omega)
    · intro k k0 kn e1 e2; omega
  rw [pop_len]
  intro k k0 kn
  have t : ∀ j, j < L.length - 1 → g (pop L) j = g (popd L) j := by
    intro j hj
    unfold pop g
    rw [List.getD_eq_getElem?_getD, List.getElem?_take, if_pos hj, List.getD_eq_getElem?_getD]
  rw [t k kn, t _ (by omega)]
  exact hd k k0 kn
theorem popd_last {L : List OB} (h0 : 0 < L.length) : g (popd L) (L.length - 1) = g L 0 := by
  unfold popd
  by_cases h1 : L.length = 1
  · rw [h1]
    have : down 1 (sw L 0 (1 - 1)) 0 (1 - 1) = sw L 0 (1 - 1) := by unfold down; simp
    rw [this, g_sw h0 (by omega)]; simp
  · rw [down_last _ _ _ _ (by omega) (by rw [sw_len]; omega) _ (Nat.le_refl _), g_sw h0 (by omega)]; simp
theorem popd_perm {L : List OB} (h0 : 0 < L.length) : (popd L).Perm L := by
  unfold popd
  by_cases h1 : L.length = 1
  · rw [h1]
    have : down 1 (sw L 0 (1 - 1)) 0 (1 - 1) = sw L 0 (1 - 1) := by unfold down; simp
    rw [this]; exact sw_perm h0 (by omega)
  · exact (down_perm _ _ _ _ (by omega) (by rw [sw_len]; omega)).trans (sw_perm h0 (by omega))
theorem pop_perm {L : List OB} (h0 : 0 < L.length) : L.Perm (g L 0 :: pop L) := by
  have h1 : (pop L) ++ [g (popd L) (L.length - 1)] = popd L := by
    unfold pop g
    have hl := popd_len L
    rw [List.getD_eq_getElem?_getD, List.getElem?_eq_getElem (by omega), Option.getD_some, ← List.take_succ_eq_append_getElem (by omega), List.take_of_length_le (by omega)]
  rw [popd_last h0] at h1
  have h2 := popd_perm h0
  rw [← h1] at h2
  exact h2.symm.trans List.perm_append_comm
/-- A box. -/
structure Bx where
  a : Int
  b : Int
  c : Int
  d : Int
  e : Int
  f : Int
def OB.bx (o : OB) : Bx := ⟨o.a, o.b, o.c, o.d, o.e, o.f⟩
/-- A point. -/
abbrev P3 := Int × Int × Int
def np (B : Bx) : Int := (B.d - B.a + 1) * (B.e - B.b + 1) * (B.f - B.c + 1)
structure Sb (R B : Bx) : Prop where
  a : R.a ≤ B.a
  b : R.b ≤ B.b
  c : R.c ≤ B.c
  d : B.d ≤ R.d
  e : B.e ≤ R.e
  f : B.f ≤ R.f
  x : B.a ≤ B.d
  y : B.b ≤ B.e
  z : B.c ≤ B.f
theorem Sb.trans {R B C : Bx} (h : Sb R B) (k : Sb B C) : Sb R C := by
  obtain ⟨h1, h2, h3, h4, h5, h6, _, _, _⟩ := h
  obtain ⟨k1, k2, k3, k4, k5, k6, k7, k8, k9⟩ := k
  exact ⟨by omega, by omega, by omega, by omega, by omega, by omega, k7, k8, k9⟩
def inB (B : Bx) (p : P3) : Prop := B.a ≤ p.1 ∧ p.1 ≤ B.d ∧ B.b ≤ p.2.1 ∧ p.2.1 ≤ B.e ∧ B.c ≤ p.2.2 ∧ p.2.2 ≤ B.f
theorem inB_sub {R B : Bx} (h : Sb R B) {p : P3} (k : inB B p) : inB R p := by
  obtain ⟨h1, h2, h3, h4, h5, h6, _, _, _⟩ := h
  unfold inB at *; omega
def one (B : Bx) : Bool := decide (B.a = B.d ∧ B.b = B.e ∧ B.c = B.f)
def cen (B : Bx) : P3 := (B.a + (B.d - B.a) / 2, B.b + (B.e - B.b) / 2, B.c + (B.f - B.c) / 2)
theorem cen_in {R B : Bx} (h : Sb R B) : inB B (cen B) := by
  have := h.x; have := h.y; have := h.z
  unfold inB cen; simp only; omega
theorem np_pos {R B : Bx} (h : Sb R B) : 1 ≤ np B := by
  have h1 := h.x; have h2 := h.y; have h3 := h.z
  have a : 0 < (B.d - B.a + 1) * (B.e - B.b + 1) := Int.mul_pos (by omega) (by omega)
  have b : 0 < (B.d - B.a + 1) * (B.e - B.b + 1) * (B.f - B.c + 1) := Int.mul_pos a (by omega)
  unfold np; omega
/-- What a search asks: the bounds, the misfits, the halves. -/
structure Ask where
  F : Bx → Int
  G : P3 → Int × Int
  S : Bx → Bx × Bx
/-- The state of a search. -/
structure St where
  op : List OB
  nx : Int
  tk : Int
  fd : Bool
  x : Int
  y : Int
  z : Int
  t : Int
  m : Int
def lex3 (p q : P3) : Bool := if p.1 = q.1 then (if p.2.1 = q.2.1 then decide (p.2.2 < q.2.2) else decide (p.2.1 < q.2.1)) else decide (p.1 < q.1)
def better (C : Ask) (s : St) (p : P3) : Bool := !s.fd || decide ((C.G p).2 < s.m) || (decide ((C.G p).2 = s.m) && lex3 p (s.x, s.y, s.z))
def consider (C : Ask) (s : St) (p : P3) : St := if better C s p = true then { s with fd := true, x := p.1, y := p.2.1, z := p.2.2, t := (C.G p).1, m := (C.G p).2 } else s
def add (C : Ask) (s : St) (B : Bx) : St := { s with op := push s.op ⟨B.a, B.b, B.c, B.d, B.e, B.f, C.F B, s.nx⟩, nx := s.nx + 1 }
def first (s : St) : St := { s with tk := s.tk + 1, op := pop s.op }
def take (C : Ask) (s : St) : St :=
  if one (g s.op 0).bx = true then consider C (first s) (cen (g s.op 0).bx)
  else add C (add C (consider C (first s) (cen (g s.op 0).bx)) (C.S (g s.op 0).bx).1) (C.S (g s.op 0).bx).2
def ended (tol : Int) (s : St) : Bool := decide (s.op.length = 0) || (s.fd && decide (s.m - (g s.op 0).bd ≤ tol))
def run (C : Ask) (tol : Int) : Nat → St → St
  | 0, s => s
  | k + 1, s => if ended tol s = true then s else run C tol k (take C s)
def start : St := ⟨[], 0, 0, false, 0, 0, 0, 0, 0⟩
/-- What the search leans on. -/
structure Good (C : Ask) (R : Bx) : Prop where
  rv : Sb R R
  sp : ∀ B, Sb R B → one B = false → Sb B (C.S B).1 ∧ Sb B (C.S B).2 ∧ np (C.S B).1 + np (C.S B).2 = np B ∧ ∀ p, inB B p → inB (C.S B).1 p ∨ inB (C.S B).2 p
def wgt (L : List OB) : Int := (L.map fun o => 2 * np o.bx - 1).sum
theorem wgt_perm {L M : List OB} (h : L.Perm M) : wgt L = wgt M := by
  unfold wgt
  induction h with
  | nil => rfl
  | cons a _ ih => simp [ih]
  | swap a b l => simp; omega
  | trans _ _ h1 h2 => exact h1.trans h2
theorem wgt_cons (o : OB) (L : List OB) : wgt (o :: L) = 2 * np o.bx - 1 + wgt L := by simp [wgt]
structure Inv (C : Ask) (R : Bx) (s : St) : Prop where
  heap : Heap s.op s.op.length
  box : ∀ o ∈ s.op, Sb R o.bx ∧ o.bd = C.F o.bx
  cov : ∀ p, inB R p → (∃ o ∈ s.op, inB o.bx p) ∨ (s.fd = true ∧ s.m ≤ (C.G p).2)
  bst : s.fd = true → inB R (s.x, s.y, s.z) ∧ C.G (s.x, s.y, s.z) = (s.t, s.m)
  pot : wgt s.op + s.tk = 2 * np R - 1
  tk0 : 0 ≤ s.tk
  nx0 : 0 ≤ s.nx
  nx9 : s.nx ≤ 2 * s.tk + 1
theorem wgt_ge {C : Ask} {R : Bx} : ∀ {L : List OB}, (∀ o ∈ L, Sb R o.bx ∧ o.bd = C.F o.bx) → (L.length : Int) ≤ wgt L
  | [], _ => by simp [wgt]
  | o :: L, h => by
    have := wgt_ge (L := L) fun q hq => h q (List.mem_cons_of_mem _ hq)
    have := np_pos (h o (List.mem_cons_self ..)).1
    rw [wgt_cons, List.length_cons]; omega
theorem g_mem {L : List OB} {k : Nat} (h : k < L.length) : g L k ∈ L := by
  unfold g; rw [List.getD_eq_getElem?_getD, List.getElem?_eq_getElem h]; exact List.getElem_mem h
theorem inv_add {C : Ask} {R : Bx} {s : St} {B : Bx} (hS : Sb R B) (heap : Heap s.op s.op.length) (box : ∀ o ∈ s.op, Sb R o.bx ∧ o.bd = C.F o.bx) :
    Heap (add C s B).op (add C s B).op.length ∧ (∀ o ∈ (add C s B).op, Sb R o.bx ∧ o.bd = C.F o.bx) ∧ wgt (add C s B).op = wgt s.op + (2 * np B - 1) ∧ (∀ o ∈ s.op, o ∈ (add C s B).op) ∧ (∃ o ∈ (add C s B).op, o.bx = B) := by
  have hp := push_perm s.op ⟨B.a, B.b, B.c, B.d, B.e, B.f, C.F B, s.nx⟩
  refine ⟨push_heap _ heap, fun o ho => ?_, ?_, fun o ho => ?_, ?_⟩
  · rcases List.mem_cons.1 (hp.mem_iff.1 ho) with rfl | h
    · exact ⟨hS, rfl⟩
    · exact box o h
  · show wgt (push _ _) = _
    rw [wgt_perm hp, wgt_cons]; show 2 * np B - 1 + _ = _; omega
  · exact hp.mem_iff.2 (List.mem_cons_of_mem _ ho)
  · exact ⟨_, hp.mem_iff.2 (List.mem_cons_self ..), rfl⟩
theorem start_inv {C : Ask} {R : Bx} (h : Good C R) : Inv C R (add C start R) := by
  obtain ⟨h1, h2, h3, h4, o, h5, h6⟩ := inv_add (C := C) (R := R) (s := start) h.rv (fun k k0 kn => absurd kn (Nat.not_lt_zero _)) (fun o ho => by simp [start] at ho)
  exact ⟨h1, h2, fun p hp => .inl ⟨o, h5, by rw [h6]; exact hp⟩, fun e => by simp [add, start] at e, by rw [h3]; simp [start, wgt, add], by simp [add, start], by simp [add, start], by simp [add, start]⟩
theorem consider_op (C : Ask) (s : St) (p : P3) : (consider C s p).op = s.op ∧ (consider C s p).nx = s.nx ∧ (consider C s p).tk = s.tk ∧ (consider C s p).fd = true := by
  unfold consider better
  split
  · exact ⟨rfl, rfl, rfl, rfl⟩
  · rename_i h
    cases hf : s.fd <;> simp [hf] at h ⊢
theorem consider_le (C : Ask) (s : St) (p : P3) : (consider C s p).m ≤ (C.G p).2 ∧ (s.fd = true → (consider C s p).m ≤ s.m) := by
  unfold consider better
  split
  · rename_i h
    refine ⟨Int.le_refl _, fun hf => ?_⟩
    simp [hf] at h
    show (C.G p).2 ≤ s.m
    rcases h with h | h <;> omega
  · rename_i h
    cases hf : s.fd <;> simp [hf] at h
    exact ⟨by omega, fun _ => Int.le_refl _⟩
theorem consider_bst {C : Ask} {R : Bx} {s : St} {p : P3} (hp : inB R p) (h : s.fd = true → inB R (s.x, s.y, s.z) ∧ C.G (s.x, s.y, s.z) = (s.t, s.m)) :
    inB R ((consider C s p).x, (consider C s p).y, (consider C s p).z) ∧ C.G ((consider C s p).x, (consider C s p).y, (consider C s p).z) = ((consider C s p).t, (consider C s p).m) := by
  have hf := (consider_op C s p).2.2.2
  unfold consider at *
  split
  · exact ⟨hp, rfl⟩
  · rename_i hb
    rw [if_neg hb] at hf
    exact h hf
theorem one_np {B : Bx} (h : one B = true) : np B = 1 := by
  unfold one at h; simp at h
  obtain ⟨h1, h2, h3⟩ := h
  unfold np; rw [h1, h2, h3]; simp
theorem take_inv {C : Ask} {R : Bx} (h : Good C R) {s : St} (i : Inv C R s) (h0 : s.op.length ≠ 0) : Inv C R (take C s) ∧ (take C s).tk = s.tk + 1 ∧ (take C s).fd = true := by
  have h0' : 0 < s.op.length := by omega
  have hpm := pop_perm h0'
  have hg := i.box _ (g_mem h0')
  have hw := wgt_perm hpm
  rw [wgt_cons] at hw
  have hpb : ∀ o ∈ pop s.op, Sb R o.bx ∧ o.bd = C.F o.bx := fun o ho => i.box o (hpm.mem_iff.2 (List.mem_cons_of_mem _ ho))
  have hph := pop_heap h0' i.heap
  obtain ⟨c1, c2, c3, c4⟩ := consider_op C (first s) (cen (g s.op 0).bx)
  obtain ⟨c5, c6⟩ := consider_le C (first s) (cen (g s.op 0).bx)
  have c7 := consider_bst (C := C) (s := first s) (inB_sub hg.1 (cen_in hg.1)) i.bst
  have hnx := i.nx0
  have hnx9 := i.nx9
  have htk := i.tk0
  have hpo := i.pot
  generalize hb : (g s.op 0).bx = B at *
  generalize hs1 : consider C (first s) (cen B) = s1 at *
  have e1 : s1.op = pop s.op := c1
  have e2 : s1.nx = s.nx := c2
  have e3 : s1.tk = s.tk + 1 := c3
  have hcov : ∀ p, inB R p → (∃ o ∈ pop s.op, inB o.bx p) ∨ inB B p ∨ (s1.fd = true ∧ s1.m ≤ (C.G p).2) := by
    intro p hp
    rcases i.cov p hp with ⟨o, ho, hin⟩ | ⟨hf, hm⟩
    · rcases List.mem_cons.1 (hpm.mem_iff.1 ho) with rfl | h'
      · exact .inr (.inl (by rw [hb] at hin; exact hin))
      · exact .inl ⟨o, h', hin⟩
    · exact .inr (.inr ⟨c4, Int.le_trans (c6 hf) hm⟩)
  unfold take
  rw [hb, hs1]
  by_cases ho : one B = true
  · rw [if_pos ho]
    refine ⟨⟨by rw [e1]; exact hph, by rw [e1]; exact hpb, fun p hp => ?_, fun _ => c7, ?_, by omega, by omega, by omega⟩, e3, c4⟩
    · rw [e1]
      rcases hcov p hp with h1 | h1 | h1
      · exact .inl h1
      · refine .inr ⟨c4, ?_⟩
        have : p = cen B := by
          unfold one at ho; simp at ho
          obtain ⟨k1, k2, k3⟩ := ho
          unfold inB at h1; unfold cen
          refine Prod.ext ?_ (Prod.ext ?_ ?_) <;> simp only <;> omega
        rw [this]; exact c5
      · exact .inr h1
    · rw [e1, e3]; have := one_np ho; omega
  · rw [if_neg ho]
    have ho' : one B = false := by simpa using ho
    obtain ⟨q1, q2, q3, q4⟩ := h.sp B hg.1 ho'
    obtain ⟨a1, a2, a3, a4, o1, a5, a6⟩ := inv_add (C := C) (s := s1) (hg.1.trans q1) (by rw [e1]; exact hph) (by rw [e1]; exact hpb)
    obtain ⟨b1, b2, b3, b4, o2, b5, b6⟩ := inv_add (C := C) (s := add C s1 (C.S B).1) (hg.1.trans q2) a1 a2
    refine ⟨⟨b1, b2, fun p hp => ?_, fun _ => c7, ?_, ?_, ?_, ?_⟩, e3, c4⟩
    · rcases hcov p hp with ⟨o, h1, h2⟩ | h1 | h1
      · exact .inl ⟨o, b4 o (a4 o (by rw [e1]; exact h1)), h2⟩
      · rcases q4 p h1 with h2 | h2
        · exact .inl ⟨o1, b4 o1 a5, by rw [a6]; exact h2⟩
        · exact .inl ⟨o2, b5, by rw [b6]; exact h2⟩
      · exact .inr h1
    · rw [b3, a3, e1]; show _ + s1.tk = _; rw [e3]; omega
    · show 0 ≤ s1.tk; omega
    · show 0 ≤ s1.nx + 1 + 1; omega
    · show s1.nx + 1 + 1 ≤ 2 * s1.tk + 1; omega
theorem run_inv {C : Ask} {R : Bx} (h : Good C R) (tol : Int) : ∀ (k : Nat) (s : St), Inv C R s → wgt s.op ≤ k → Inv C R (run C tol k s) ∧ ended tol (run C tol k s) = true
  | 0, s, i, hk => by
    have := wgt_ge i.box
    refine ⟨i, ?_⟩
    show ended tol s = true
    unfold ended; simp; left; apply List.eq_nil_of_length_eq_zero; omega
  | k + 1, s, i, hk => by
    unfold run
    split
    · rename_i e; exact ⟨i, e⟩
    · rename_i e
      have h0 : s.op.length ≠ 0 := fun q => e (by unfold ended; simp [q])
      obtain ⟨j, hj, _⟩ := take_inv h i h0
      have p1 := i.pot; have p2 := j.pot
      exact run_inv h tol k _ j (by omega)
theorem run_fd (C : Ask) {R : Bx} (h : Good C R) (tol : Int) : ∀ (k : Nat) (s : St), Inv C R s → s.fd = true → (run C tol k s).fd = true
  | 0, _, _, h => h
  | k + 1, s, i, hf => by
    unfold run
    split
    · exact hf
    · rename_i e
      have h0 : s.op.length ≠ 0 := fun q => e (by unfold ended; simp [q])
      obtain ⟨j, _, hf'⟩ := take_inv h i h0
      exact run_fd C h tol k _ j hf'
theorem run_tk {C : Ask} {R : Bx} (h : Good C R) {t1 t2 : Int} (ht : t1 ≤ t2) : ∀ (k : Nat) (s : St), Inv C R s → s.tk ≤ (run C t1 k s).tk ∧ (run C t2 k s).tk ≤ (run C t1 k s).tk
  | 0, _, _ => ⟨Int.le_refl _, Int.le_refl _⟩
  | k + 1, s, i => by
    by_cases e1 : ended t1 s = true
    · have e2 : ended t2 s = true := by
        unfold ended at *
        simp at e1 ⊢
        rcases e1 with e1 | ⟨e1, e3⟩
        · exact .inl e1
        · exact .inr ⟨e1, by omega⟩
      unfold run
      rw [if_pos e1, if_pos e2]
      exact ⟨Int.le_refl _, Int.le_refl _⟩
    · have h0 : s.op.length ≠ 0 := fun q => e1 (by unfold ended; simp [q])
      obtain ⟨j, hj, _⟩ := take_inv h i h0
      obtain ⟨r1, r2⟩ := run_tk h ht k _ j
      unfold run
      rw [if_neg e1]
      by_cases e2 : ended t2 s = true
      · rw [if_pos e2]; exact ⟨by omega, by omega⟩
      · rw [if_neg e2]; exact ⟨by omega, r2⟩
end Loc
end Go.Proofs.YtldgihlhioeipaaGreat

/- The search by branch and bound: what its result says. -/
set_option linter.unusedVariables false
namespace Go.Proofs.YtldgihlhioeipaaGreat
namespace Loc
/-- The least box around two. -/
def hull (A B : Bx) : Bx := ⟨min A.a B.a, min A.b B.b, min A.c B.c, max A.d B.d, max A.e B.e, max A.f B.f⟩
def lowF (m : Int) (L : List OB) : Int := L.foldl (fun l o => min l o.bd) m
def areaF (m : Int) (A : Bx) (L : List OB) : Bx := L.foldl (fun A o => if o.bd < m then hull A o.bx else A) A
theorem lowF_snoc (m : Int) (L : List OB) (o : OB) : lowF m (L ++ [o]) = min (lowF m L) o.bd := by simp [lowF, List.foldl_append]
theorem areaF_snoc (m : Int) (A : Bx) (L : List OB) (o : OB) : areaF m A (L ++ [o]) = if o.bd < m then hull (areaF m A L) o.bx else areaF m A L := by simp [areaF, List.foldl_append]
theorem take_g {L : List OB} {k : Nat} (h : k < L.length) : L.take (k + 1) = L.take k ++ [g L k] := by
  unfold g; rw [List.take_succ_eq_append_getElem h, List.getD_eq_getElem?_getD, List.getElem?_eq_getElem h]; rfl
theorem lowF_all (L : List OB) : ∀ m, (lowF m L ≤ m ∧ ∀ o ∈ L, lowF m L ≤ o.bd) ∧ (lowF m L = m ∨ ∃ o ∈ L, lowF m L = o.bd) := by
  induction L with
  | nil => intro m; simp [lowF]
  | cons o L ih =>
    intro m
    have e : lowF m (o :: L) = lowF (min m o.bd) L := rfl
    obtain ⟨⟨h1, h2⟩, h3⟩ := ih (min m o.bd)
    rw [e]
    refine ⟨⟨by omega, fun q hq => ?_⟩, ?_⟩
    · rcases List.mem_cons.1 hq with rfl | h
      · omega
      · exact h2 q h
    · rcases h3 with h3 | ⟨q, h4, h5⟩
      · by_cases hm : m ≤ o.bd
        · exact .inl (by omega)
        · exact .inr ⟨o, List.mem_cons_self .., by omega⟩
      · exact .inr ⟨q, List.mem_cons_of_mem _ h4, h5⟩
theorem hull_sub {R A B : Bx} (h : Sb R A) (k : Sb R B) : Sb R (hull A B) := by
  obtain ⟨h1, h2, h3, h4, h5, h6, h7, h8, h9⟩ := h
  obtain ⟨k1, k2, k3, k4, k5, k6, k7, k8, k9⟩ := k
  unfold hull
  exact ⟨by simp only; omega, by simp only; omega, by simp only; omega, by simp only; omega, by simp only; omega, by simp only; omega, by simp only; omega, by simp only; omega, by simp only; omega⟩
theorem hull_l {A B : Bx} {p : P3} (h : inB A p) : inB (hull A B) p := by unfold inB hull at *; simp only; omega
theorem hull_r {A B : Bx} {p : P3} (h : inB B p) : inB (hull A B) p := by unfold inB hull at *; simp only; omega
theorem areaF_all (m : Int) {R : Bx} (L : List OB) : ∀ A, Sb R A → (∀ o ∈ L, Sb R o.bx) → Sb R (areaF m A L) ∧ (∀ p, inB A p → inB (areaF m A L) p) ∧ ∀ o ∈ L, o.bd < m → ∀ p, inB o.bx p → inB (areaF m A L) p := by
  induction L with
  | nil => intro A h _; exact ⟨h, fun _ h => h, fun o ho => by simp at ho⟩
  | cons o L ih =>
    intro A h hL
    have e : areaF m A (o :: L) = areaF m (if o.bd < m then hull A o.bx else A) L := rfl
    have hA : Sb R (if o.bd < m then hull A o.bx else A) := by split; exact hull_sub h (hL o (List.mem_cons_self ..)); exact h
    obtain ⟨h1, h2, h3⟩ := ih _ hA fun q hq => hL q (List.mem_cons_of_mem _ hq)
    rw [e]
    refine ⟨h1, fun p hp => h2 p ?_, fun q hq hb p hp => ?_⟩
    · split; exact hull_l hp; exact hp
    · rcases List.mem_cons.1 hq with rfl | h'
      · exact h2 p (by rw [if_pos hb]; exact hull_r hp)
      · exact h3 q h' hb p hp
def pb (p : P3) : Bx := ⟨p.1, p.2.1, p.2.2, p.1, p.2.1, p.2.2⟩
theorem pb_sub {R : Bx} {p : P3} (h : inB R p) : Sb R (pb p) := by
  unfold inB at h; unfold pb
  exact ⟨by simp only; omega, by simp only; omega, by simp only; omega, by simp only; omega, by simp only; omega, by simp only; omega, Int.le_refl _, Int.le_refl _, Int.le_refl _⟩
theorem pb_in (p : P3) : inB (pb p) p := by unfold inB pb; simp only; omega
/-- What the result of a search that has ended says. -/
structure Fin (C : Ask) (R : Bx) (tol : Int) (s : St) : Prop where
  inR : inB R (s.x, s.y, s.z)
  at_ : C.G (s.x, s.y, s.z) = (s.t, s.m)
  lo1 : lowF s.m s.op ≤ s.m
  lo2 : s.m - lowF s.m s.op ≤ tol
  sub : Sb R (areaF s.m (pb (s.x, s.y, s.z)) s.op)
  inA : inB (areaF s.m (pb (s.x, s.y, s.z)) s.op) (s.x, s.y, s.z)
  all : ∀ p, inB R p → lowF s.m s.op ≤ (C.G p).2 ∧ ((C.G p).2 < s.m → inB (areaF s.m (pb (s.x, s.y, s.z)) s.op) p)
theorem fin_of {C : Ask} {R : Bx} {tol : Int} {s : St} (i : Inv C R s) (hm : ∀ B p, Sb R B → inB B p → C.F B ≤ (C.G p).2) (he : ended tol s = true) (hf : s.fd = true) (ht : 0 ≤ tol) : Fin C R tol s := by
  obtain ⟨b1, b2⟩ := i.bst hf
  obtain ⟨⟨l1, l2⟩, l3⟩ := lowF_all s.op s.m
  obtain ⟨a1, a2, a3⟩ := areaF_all (R := R) s.m s.op (pb (s.x, s.y, s.z)) (pb_sub b1) fun o ho => (i.box o ho).1
  refine ⟨b1, b2, l1, ?_, a1, a2 _ (pb_in _), fun p hp => ?_⟩
  · rcases l3 with e | ⟨o, ho, e⟩
    · omega
    · rw [e]
      unfold ended at he
      simp [hf] at he
      rcases he with he | he
      · rw [he] at ho; simp at ho
      · obtain ⟨k, hk⟩ := List.getElem?_of_mem ho
        have hk' := (List.getElem?_eq_some_iff.1 hk).1
        have hl := heap_least i.heap k hk'
        have hg : g s.op k = o := by unfold g; rw [List.getD_eq_getElem?_getD, hk]; rfl
        rw [hg, ← Bool.not_eq_true, ltb_def] at hl
        omega
  · rcases i.cov p hp with ⟨o, ho, hin⟩ | ⟨_, hle⟩
    · obtain ⟨k1, k2⟩ := i.box o ho
      have := hm _ _ k1 hin
      have := l2 o ho
      exact ⟨by omega, fun hlt => a3 o ho (by omega) p hin⟩
    · exact ⟨by omega, fun hlt => by omega⟩
theorem run_first {C : Ask} {R : Bx} (h : Good C R) (tol : Int) (k : Nat) : (run C tol (k + 1) (add C start R)).fd = true := by
  have i := start_inv h
  have e : ended tol (add C start R) = false := by
    have hl : (add C start R).op.length = 1 := push_len [] _
    unfold ended
    rw [hl]; rfl
  unfold run
  rw [e]
  simp only [Bool.false_eq_true, if_false]
  obtain ⟨j, _, hf⟩ := take_inv h i (by rw [show (add C start R).op.length = 1 from push_len [] _]; omega)
  exact run_fd C h tol k _ j hf
end Loc
end Go.Proofs.YtldgihlhioeipaaGreat

/- Rows of open boxes; queue.Len, queue.Less. -/
set_option linter.unusedVariables false
set_option linter.unusedSimpArgs false
namespace Go.Proofs.YtldgihlhioeipaaGreat
open Go.RowKit
namespace Loc
def row8 (o : OB) : List Value := [.int .i64 o.a, .int .i64 o.b, .int .i64 o.c, .int .i64 o.d, .int .i64 o.e, .int .i64 o.f, .int .i64 o.bd, .int .i64 o.nr]
def cells8 (L : List OB) : List Value := L.flatMap row8
theorem cells8_snoc (L : List OB) (o : OB) : cells8 (L ++ [o]) = cells8 L ++ row8 o := by simp [cells8, List.flatMap_append]
theorem cells8_cons (L : List OB) (o : OB) : cells8 (o :: L) = row8 o ++ cells8 L := by simp [cells8]
theorem row8_len (o : OB) : (row8 o).length = 8 := rfl
theorem cells8_len (L : List OB) : (cells8 L).length = L.length * 8 := by
  induction L with
  | nil => rfl
  | cons o L ih => rw [cells8_cons, List.length_append, ih, row8_len, List.length_cons]; omega
theorem cells8_get (L : List OB) : ∀ (k : Nat), k < L.length → ∀ j, j < 8 → (cells8 L)[k * 8 + j]? = (row8 (g L k))[j]? := by
  induction L with
  | nil => intro k h; simp at h
  | cons q L ih =>
    intro k h j hj
    rw [cells8_cons]
    cases k with
    | zero => rw [Nat.zero_mul, Nat.zero_add, List.getElem?_append_left (by rw [row8_len]; omega)]; rfl
    | succ k =>
      rw [List.getElem?_append_right (by rw [row8_len]; omega), row8_len, show (k + 1) * 8 + j - 8 = k * 8 + j by omega]
      exact ih k (by simpa using h) j hj
theorem row8_one (o : OB) : ∀ u ∈ row8 o, u.oneCell' = true := by
  intro u hu
  simp only [row8, List.mem_cons, List.not_mem_nil, or_false] at hu
  rcases hu with rfl | rfl | rfl | rfl | rfl | rfl | rfl | rfl <;> rfl
/-- The slice v holds the open boxes L. -/
def OwnQ (w : World) (B : Nat) (v : Value) (L : List OB) : Prop := w.ownsRow B 64 8 v L.length (cells8 L)
theorem OwnQ.cell {w : World} {B b n c : Nat} {L : List OB} (h : OwnQ w B (.slice (some ⟨b, 0, none⟩) n c) L) {k : Nat} (hk : k < L.length) (j : Nat) (u : Value) (hu : (row8 (g L k))[j]? = some u) : w.cell? ⟨b, k * 8 + j, none⟩ = some u := by
  have hj : j < 8 := by have := (List.getElem?_eq_some_iff.1 hu).1; simpa [row8] using this
  have := World.ownsRow.cells (g := b) h rfl (k * 8 + j) u (by rw [cells8_get L k hk j hj, hu])
  rwa [Addr.add_lit, Nat.zero_add] at this
theorem OwnQ.range {w : World} {B b n c : Nat} {L : List OB} (h : OwnQ w B (.slice (some ⟨b, 0, none⟩) n c) L) {k : Nat} (hk : k < L.length) : w.rangeAt b (k * 8) (row8 (g L k)) := fun j u hu => h.cell hk j u hu
theorem OwnQ.addr {w : World} {B : Nat} {ad : Option Addr} {n c : Nat} {L : List OB} (h : OwnQ w B (.slice ad n c) L) (h0 : 0 < L.length) : ∃ b : Nat, ad = some ⟨b, 0, none⟩ ∧ n = L.length ∧ B ≤ b ∧ b < w.heap.size := by
  rcases h.2 with ⟨_, e⟩ | ⟨b, c', _, e, hb, hc, _⟩
  · omega
  · injection e with e1 e2 _; exact ⟨b, e1, e2, hb, (Array.getElem?_eq_some_iff.1 hc).1⟩
theorem OwnQ.len {w : World} {B : Nat} {ad : Option Addr} {n c : Nat} {L : List OB} (h : OwnQ w B (.slice ad n c) L) : n = L.length := by
  rcases h.2 with ⟨e1, e⟩ | ⟨b, c', _, e, hb, hc, _⟩
  · injection e1 with _ e2 _; omega
  · injection e with e1 e2 _
theorem OwnQ.below {w w' : World} {B : Nat} {v : Value} {L : List OB} (h : OwnQ w B v L) (hb : Below w.heap.size w w') : OwnQ w' B v L := Mis.own_below h hb
theorem OwnQ.same {w w' : World} {B : Nat} {v : Value} {L : List OB} (h : OwnQ w B v L) (hb : ∀ k, v.ownBlock = some k → w'.heap[k]? = w.heap[k]?) : OwnQ w' B v L := Mis.own_kept h hb
theorem len_any (ad : Option Addr) (n c : Nat) (w : World) : Calls Tryz.prog 131 #[.slice ad n c] w fun e w' => e = .returned (.int .i64 (n : Int)) ∧ w' = w := by
  go_enter Tryz.func131, Tryz.ntmps131
  go_wp2
  go_ret
  exact ⟨rfl, rfl⟩
set_option maxHeartbeats 2000000 in
theorem less_any {w : World} {B b n c : Nat} {L : List OB} (h : OwnQ w B (.slice (some ⟨b, 0, none⟩) n c) L) (hn : n ≤ 1000000) {i k : Nat} (hi : i < L.length) (hk : k < L.length) :
    Calls Tryz.prog 132 #[.slice (some ⟨b, 0, none⟩) n c, .int .i64 (i : Int), .int .i64 (k : Int)] w fun e w' => e = .returned (.bool (ltb (g L i) (g L k))) ∧ Below w.heap.size w w' := by
  have hl := h.len
  have a1 := h.cell hi 6 _ rfl
  have a2 := h.cell hi 7 _ rfl
  have a3 := h.cell hk 6 _ rfl
  have a4 := h.cell hk 7 _ rfl
  have i1 : (i : Int) < (n : Int) := by omega
  have k1 : (k : Int) < (n : Int) := by omega
  obtain ⟨r, hr⟩ : ∃ r, r = ltb (g L i) (g L k) := ⟨_, rfl⟩
  rw [← hr]
  unfold ltb at hr
  generalize (g L i).bd = x1 at *
  generalize (g L k).bd = x2 at *
  generalize (g L i).nr = y1 at *
  generalize (g L k).nr = y2 at *
  clear hl h
  by_cases e : x1 = x2
  · rw [if_pos e] at hr
    subst e
    have d0 : (x1 != x1) = false := by simp
    replace hr := Lib.hid hr
    go_enter Tryz.func132, Tryz.ntmps132
    go_wp2_with fail
    go_quiet (fail)
    go_wp2_with fail
    go_quiet (fail)
    go_wp2_with fail
    go_ret
    exact ⟨by rw [hr.out]; rfl, Buf.below_drewN (Buf.below_drewN (Below.refl _ _) _) _⟩
  · rw [if_neg e] at hr
    have d0 : (x1 != x2) = true := by simp [e]
    have d1 : (x1 == x2) = false := by simp [e]
    replace hr := Lib.hid hr
    replace e := Lib.hid e
    go_enter Tryz.func132, Tryz.ntmps132
    go_wp2_with fail
    go_quiet (fail)
    go_wp2_with fail
    go_quiet (fail)
    go_wp2_with fail
    go_ret
    exact ⟨by rw [hr.out]; rfl, Buf.below_drewN (Buf.below_drewN (Below.refl _ _) _) _⟩
end Loc
end Go.Proofs.YtldgihlhioeipaaGreat

/- queue.Swap. -/
set_option linter.unusedVariables false
set_option linter.unusedSimpArgs false
namespace Go.Proofs.YtldgihlhioeipaaGreat
open Go.RowKit
namespace Loc
theorem row8_all (o : OB) : (row8 o).toArray.all (·.oneCell') = true := by simp [row8, Value.oneCell']
theorem setMany_size : ∀ (vs : List Value) (cs : Array Value) (o : Nat), (Mid.setMany cs o vs).size = cs.size
  | [], _, _ => rfl
  | v :: r, cs, o => by unfold Mid.setMany; rw [setMany_size r]; simp
theorem setMany_get : ∀ (vs : List Value) (cs : Array Value) (o p : Nat), o + vs.length ≤ cs.size → (Mid.setMany cs o vs)[p]? = if o ≤ p ∧ p < o + vs.length then vs[p - o]? else cs[p]?
  | [], _, _, _, _ => by unfold Mid.setMany; rw [if_neg (by simp only [List.length_nil]; omega)]
  | v :: r, cs, o, p, h => by
    simp only [List.length_cons] at h ⊢
    unfold Mid.setMany
    rw [setMany_get r _ _ _ (by simp only [Array.size_setIfInBounds]; omega)]
    by_cases h1 : p = o
    · subst h1
      rw [if_neg (by omega), if_pos (by omega), Array.getElem?_setIfInBounds_self_of_lt (by omega)]
      simp
    · by_cases h2 : o + 1 ≤ p ∧ p < o + 1 + r.length
      · rw [if_pos h2, if_pos (by omega), show p - o = (p - (o + 1)) + 1 by omega]
        simp
      · rw [if_neg h2, if_neg (by omega), Array.getElem?_setIfInBounds_ne (by omega)]
theorem OwnQ.there {w : World} {B b n c : Nat} {L : List OB} (h : OwnQ w B (.slice (some ⟨b, 0, none⟩) n c) L) {k : Nat} (hk : k < L.length) : w.there b (k * 8) 8 := by
  rcases h.2 with ⟨e1, e⟩ | ⟨b', c', cur, e, hb, hc, hn, hm, hs, ht⟩
  · omega
  · injection e with e1 _ _
    obtain rfl : b = b' := by injection e1 with e1; injection e1
    refine Mid.there hc _ _ ?_
    rw [hs]
    have : (k + 1) * 8 ≤ c' * 8 := Nat.mul_le_mul_right 8 (by omega)
    omega
theorem OwnQ.set {w : World} {B b n c : Nat} {L : List OB} (h : OwnQ w B (.slice (some ⟨b, 0, none⟩) n c) L) {k : Nat} (hk : k < L.length) (x : OB) : OwnQ (w.setCells b (k * 8) (row8 x)) B (.slice (some ⟨b, 0, none⟩) n c) (L.set k x) := by
  refine ⟨by rw [cells8_len, List.length_set], ?_⟩
  rcases h.2 with ⟨e1, e⟩ | ⟨b', c', cur, e, hb, hc, hn, hm, hs, ht⟩
  · omega
  · injection e with e1 e2 e3
    obtain rfl : b = b' := by injection e1 with e1; injection e1
    have kk : (k + 1) * 8 ≤ c' * 8 := Nat.mul_le_mul_right 8 (by omega)
    have kl : (k + 1) * 8 ≤ L.length * 8 := Nat.mul_le_mul_right 8 (by omega)
    refine .inr ⟨b, c', Mid.setMany cur (k * 8) (row8 x), by rw [e2, e3, List.length_set], hb, Mid.heap_set _ _ _ _ _ _ hc, by rw [List.length_set]; exact hn, hm, by rw [setMany_size]; exact hs, ?_⟩
    apply List.ext_getElem?
    intro p
    rw [List.length_set, List.getElem?_take]
    by_cases hp : p < L.length * 8
    · rw [if_pos hp, Array.getElem?_toList, setMany_get _ _ _ _ (by rw [row8_len, hs]; omega), row8_len]
      have hp8 : p / 8 < L.length := by omega
      have e4 : p = p / 8 * 8 + p % 8 := by omega
      have G := cells8_get (L.set k x) (p / 8) (by rw [List.length_set]; exact hp8) (p % 8) (by omega)
      rw [← e4] at G
      rw [G]
      by_cases hkp : p / 8 = k
      · rw [if_pos (by omega), show p - k * 8 = p % 8 by omega, hkp]
        have : g (L.set k x) k = x := by unfold g; rw [List.getD_eq_getElem?_getD, List.getElem?_set_self (by omega)]; rfl
        rw [this]
      · rw [if_neg (by omega)]
        have : g (L.set k x) (p / 8) = g L (p / 8) := by unfold g; rw [List.getD_eq_getElem?_getD, List.getElem?_set_ne (by omega), List.getD_eq_getElem?_getD]
        rw [this, ← cells8_get L (p / 8) hp8 (p % 8) (by omega), ← e4, ← ht, List.getElem?_take, if_pos hp, Array.getElem?_toList]
    · rw [if_neg hp]
      exact (List.getElem?_eq_none (by rw [cells8_len, List.length_set]; omega)).symm
theorem grown_low {w w' : World} {r : Option Nat} (hb : Below w.heap.size w w') : w.grownBy w' r := ⟨hb.os, hb.tape, hb.output, hb.size, fun k hk _ => hb.block k hk⟩
theorem grown_cells {w w' : World} {b : Nat} (h : w.grownBy w' (some b)) (o : Nat) (vs : List Value) : w.grownBy (w'.setCells b o vs) (some b) := by
  induction vs generalizing w' o with
  | nil => exact h
  | cons v r ih =>
    exact ih (w' := w'.setCell ⟨b, o, none⟩ v) ⟨h.os, h.tape, h.output, by rw [World.size_setCell]; exact h.size, fun k hk hne => (Below.heap_setCell w' ⟨b, o, none⟩ v k (fun e => hne (by rw [e]))).trans (h.block k hk hne)⟩ (o + 1)
theorem there_set {w : World} {b o n : Nat} (h : w.there b o n) (o' : Nat) (vs : List Value) : (w.setCells b o' vs).there b o n := by
  induction vs generalizing w o' with
  | nil => exact h
  | cons v r ih =>
    refine ih (w := w.setCell ⟨b, o', none⟩ v) (fun j hj => ?_) (o' + 1)
    obtain ⟨h1, h2⟩ := h j hj
    refine ⟨?_, by rw [World.frozen?_setCell]; exact h2⟩
    obtain ⟨u, hu⟩ := Option.isSome_iff_exists.1 h1
    obtain ⟨u', hu'⟩ := cell?_setCell_some (p := ⟨b, o', none⟩) (x := v) hu
    rw [hu']; rfl
set_option maxHeartbeats 8000000 in
set_option maxRecDepth 100000 in
theorem swap_any {w : World} {B b n c : Nat} {L : List OB} (h : OwnQ w B (.slice (some ⟨b, 0, none⟩) n c) L) (hn : n ≤ 1000000) {i q : Nat} (hi : i < L.length) (hq : q < L.length) :
    Calls Tryz.prog 133 #[.slice (some ⟨b, 0, none⟩) n c, .int .i64 (i : Int), .int .i64 (q : Int)] w fun e w' => e = .returned (.tuple #[]) ∧ OwnQ w' B (.slice (some ⟨b, 0, none⟩) n c) (sw L i q) ∧ w.grownBy w' (some b) := by
  have hl := h.len
  have i1 : (i : Int) < (n : Int) := by omega
  have q1 : (q : Int) < (n : Int) := by omega
  have hB := (World.ownsRow.lt h b rfl).2
  replace hl := Lib.hid hl
  have H := Lib.hid h
  clear h
  go_enter Tryz.func133, Tryz.ntmps133
  go_upto_region 0 with fail
  have RI : Hid (∀ w', Below w.heap.size w w' → w'.rangeAt b (i * 8) (row8 (g L i))) := Lib.hid fun w' h' => (H.out.below h').range hi
  have RQ : Hid (∀ w', Below w.heap.size w w' → w'.rangeAt b (q * 8) (row8 (g L q))) := Lib.hid fun w' h' => (H.out.below h').range hq
  have Ri := RI
  have Rq := RQ
  have TI : Hid (∀ w', Below w.heap.size w w' → w'.there b (i * 8) 8) := Lib.hid fun w' h' => (H.out.below h').there hi
  have TQ : Hid (∀ w', Below w.heap.size w w' → (w'.setCells b (i * 8) (row8 (g L q))).there b (q * 8) 8) := Lib.hid fun w' h' => there_set ((H.out.below h').there hq) _ _
  have hw0 : Below w.heap.size w w.drew := (Below.refl _ _).drew
  refine wp_region_noPanic ?_
  refine wp_region_any (by kernel_rfl) ?_
  refine Inv.wpAny_inv2 (fun k => k == 12 || k == 13 || k == 14 || k == 15) 2 3 [6, 7, 8, 9, 10, 11, 12, 13, 14, 15, 16, 17] (fun w' => Below w.heap.size w w') (fun _ w1 w2 => Below w1.heap.size w1 w2) (fun k => ([fun v_ w_ => v_ = .slice (some ⟨b, 0, none⟩) n c, fun v_ w_ => v_ = .int .i64 (i : Int), fun v_ w_ => v_ = .slice (some ⟨b, 0, none⟩) n c, fun v_ w_ => v_ = .int .i64 (q : Int), fun v_ w_ => v_ = .slice (some ⟨b, 0, none⟩) n c, fun v_ w_ => v_ = .int .i64 (q : Int), fun v_ w_ => v_ = .pointer (some ⟨b, q * 8, none⟩), fun v_ w_ => v_ = .agg (row8 (g L q)).toArray, fun v_ w_ => v_ = .slice (some ⟨b, 0, none⟩) n c, fun v_ w_ => v_ = .int .i64 (i : Int), fun v_ w_ => v_ = .pointer (some ⟨b, i * 8, none⟩), fun v_ w_ => v_ = .agg (row8 (g L i)).toArray, fun v_ w_ => True, fun v_ w_ => True, fun v_ w_ => True, fun v_ w_ => True] : List (Value → World → Prop)).getD k (fun _ _ => True)) _ (fun σ => by simp only [Inv.putAll, List.foldl_cons, List.foldl_nil, Act.put, List.setIfInBounds_toArray, List.set_cons_zero, List.set_cons_succ]; rfl) (by kernel_rfl) (by kernel_rfl) (by decide) ?_ hw0 ?_ ?_ (fun b1 b2 => cond b1 (cond b2 4 5) (cond b2 5 6)) (fun b1 b2 => #[true, true, b1, b2, true, true, true, true, true, true, true, true, false, false, false, false]) (by intro b1 b2; cases b1 <;> cases b2 <;> kernel_rfl) (by intro b1 b2; cases b1 <;> cases b2 <;> kernel_rfl) (by exact ⟨rfl, rfl⟩) ?_
  · intro j k v w1 w2 hjk hv hr
    rcases k with _ | k
    · exact hv
    rcases k with _ | k
    · exact hv
    rcases k with _ | k
    · exact hv
    rcases k with _ | k
    · exact hv
    rcases k with _ | k
    · exact hv
    rcases k with _ | k
    · exact hv
    rcases k with _ | k
    · exact hv
    rcases k with _ | k
    · exact hv
    rcases k with _ | k
    · exact hv
    rcases k with _ | k
    · exact hv
    rcases k with _ | k
    · exact hv
    rcases k with _ | k
    · exact hv
    rcases k with _ | k
    · exact hv
    rcases k with _ | k
    · exact hv
    rcases k with _ | k
    · exact hv
    rcases k with _ | k
    · exact hv
    · exact hv
  · intro k t hl hd
    rcases k with _ | k
    · exact absurd hl (by decide +kernel)
    rcases k with _ | k
    · exact absurd hl (by decide +kernel)
    rcases k with _ | k
    · exact absurd hl (by decide +kernel)
    rcases k with _ | k
    · exact absurd hl (by decide +kernel)
    rcases k with _ | k
    · exact absurd hl (by decide +kernel)
    rcases k with _ | k
    · exact absurd hl (by decide +kernel)
    rcases k with _ | k
    · exact absurd hl (by decide +kernel)
    rcases k with _ | k
    · exact absurd hl (by decide +kernel)
    rcases k with _ | k
    · exact absurd hl (by decide +kernel)
    rcases k with _ | k
    · exact absurd hl (by decide +kernel)
    rcases k with _ | k
    · exact absurd hl (by decide +kernel)
    rcases k with _ | k
    · exact absurd hl (by decide +kernel)
    rcases k with _ | k
    · exact absurd hl (by decide +kernel)
    rcases k with _ | k
    · exact absurd hl (by decide +kernel)
    rcases k with _ | k
    · exact absurd hl (by decide +kernel)
    rcases k with _ | k
    · exact absurd hl (by decide +kernel)
    · simp at hd
  · show Inv.Steps _ _ _ _ _ _ _ _ [0, 1, 2, 3, 4, 5, 6, 7, 8, 9, 10, 11]
    refine Inv.Steps.go (by decide) (by rfl) (fun σ wx hw hd K hK => ?_) ?_
    · simp only [List.getElem_toArray, List.getElem_cons_zero, List.getElem_cons_succ, Act.put, List.setIfInBounds_toArray, List.set_cons_zero, List.set_cons_succ] at hK ⊢
      go_simp
      exact hK.out _ _ hw (Below.refl _ _) (rfl)
    refine Inv.Steps.go (by decide) (by rfl) (fun σ wx hw hd K hK => ?_) ?_
    · simp only [List.getElem_toArray, List.getElem_cons_zero, List.getElem_cons_succ, Act.put, List.setIfInBounds_toArray, List.set_cons_zero, List.set_cons_succ] at hK ⊢
      go_simp
      exact hK.out _ _ hw (Below.refl _ _) (rfl)
    refine Inv.Steps.go (by decide) (by rfl) (fun σ wx hw hd K hK => ?_) ?_
    · simp only [List.getElem_toArray, List.getElem_cons_zero, List.getElem_cons_succ, Act.put, List.setIfInBounds_toArray, List.set_cons_zero, List.set_cons_succ] at hK ⊢
      go_simp
      exact hK.out _ _ hw (Below.refl _ _) (rfl)
    refine Inv.Steps.go (by decide) (by rfl) (fun σ wx hw hd K hK => ?_) ?_
    · simp only [List.getElem_toArray, List.getElem_cons_zero, List.getElem_cons_succ, Act.put, List.setIfInBounds_toArray, List.set_cons_zero, List.set_cons_succ] at hK ⊢
      go_simp
      exact hK.out _ _ hw (Below.refl _ _) (rfl)
    refine Inv.Steps.go (by decide) (by rfl) (fun σ wx hw hd K hK => ?_) ?_
    · simp only [List.getElem_toArray, List.getElem_cons_zero, List.getElem_cons_succ, Act.put, List.setIfInBounds_toArray, List.set_cons_zero, List.set_cons_succ] at hK ⊢
      go_simp
      exact hK.out _ _ hw (Below.refl _ _) (rfl)
    refine Inv.Steps.go (by decide) (by rfl) (fun σ wx hw hd K hK => ?_) ?_
    · simp only [List.getElem_toArray, List.getElem_cons_zero, List.getElem_cons_succ, Act.put, List.setIfInBounds_toArray, List.set_cons_zero, List.set_cons_succ] at hK ⊢
      go_simp
      exact hK.out _ _ hw (Below.refl _ _) (rfl)
    refine Inv.Steps.go (by decide) (by rfl) (fun σ wx hw hd K hK => ?_) ?_
    · obtain e10 : (σ 10) = .slice (some ⟨b, 0, none⟩) n c := hd 4 (some 10) (by kernel_rfl) (by rfl)
      obtain e11 : (σ 11) = .int .i64 (q : Int) := hd 5 (some 11) (by kernel_rfl) (by rfl)
      simp only [List.getElem_toArray, List.getElem_cons_zero, List.getElem_cons_succ, Act.put, List.setIfInBounds_toArray, List.set_cons_zero, List.set_cons_succ, e10, e11] at hK ⊢
      go_simp
      exact hK.out _ _ hw (Below.refl _ _) (rfl)
    refine Inv.Steps.go (by decide) (by rfl) (fun σ wx hw hd K hK => ?_) ?_
    · obtain e12 : (σ 12) = .pointer (some ⟨b, q * 8, none⟩) := hd 6 (some 12) (by kernel_rfl) (by rfl)
      simp only [List.getElem_toArray, List.getElem_cons_zero, List.getElem_cons_succ, Act.put, List.setIfInBounds_toArray, List.set_cons_zero, List.set_cons_succ, e12] at hK ⊢
      have hr4 := Rq.out _ hw
      refine wp_load_mid 64 (.tmp 12) rfl b (q * 8) rfl (row8 (g L q)) _ hr4 rfl rfl rfl ?_
      simp only [Act.put, List.setIfInBounds_toArray, List.set_cons_zero, List.set_cons_succ]
      exact hK.out _ _ hw (Below.refl _ _) (rfl)
    refine Inv.Steps.go (by decide) (by rfl) (fun σ wx hw hd K hK => ?_) ?_
    · simp only [List.getElem_toArray, List.getElem_cons_zero, List.getElem_cons_succ, Act.put, List.setIfInBounds_toArray, List.set_cons_zero, List.set_cons_succ] at hK ⊢
      go_simp
      exact hK.out _ _ hw (Below.refl _ _) (rfl)
    refine Inv.Steps.go (by decide) (by rfl) (fun σ wx hw hd K hK => ?_) ?_
    · simp only [List.getElem_toArray, List.getElem_cons_zero, List.getElem_cons_succ, Act.put, List.setIfInBounds_toArray, List.set_cons_zero, List.set_cons_succ] at hK ⊢
      go_simp
      exact hK.out _ _ hw (Below.refl _ _) (rfl)
    refine Inv.Steps.go (by decide) (by rfl) (fun σ wx hw hd K hK => ?_) ?_
    · obtain e14 : (σ 14) = .slice (some ⟨b, 0, none⟩) n c := hd 8 (some 14) (by kernel_rfl) (by rfl)
      obtain e15 : (σ 15) = .int .i64 (i : Int) := hd 9 (some 15) (by kernel_rfl) (by rfl)
      simp only [List.getElem_toArray, List.getElem_cons_zero, List.getElem_cons_succ, Act.put, List.setIfInBounds_toArray, List.set_cons_zero, List.set_cons_succ, e14, e15] at hK ⊢
      go_simp
      exact hK.out _ _ hw (Below.refl _ _) (rfl)
    refine Inv.Steps.go (by decide) (by rfl) (fun σ wx hw hd K hK => ?_) ?_
    · obtain e16 : (σ 16) = .pointer (some ⟨b, i * 8, none⟩) := hd 10 (some 16) (by kernel_rfl) (by rfl)
      simp only [List.getElem_toArray, List.getElem_cons_zero, List.getElem_cons_succ, Act.put, List.setIfInBounds_toArray, List.set_cons_zero, List.set_cons_succ, e16] at hK ⊢
      have hr4 := Ri.out _ hw
      refine wp_load_mid 64 (.tmp 16) rfl b (i * 8) rfl (row8 (g L i)) _ hr4 rfl rfl rfl ?_
      simp only [Act.put, List.setIfInBounds_toArray, List.set_cons_zero, List.set_cons_succ]
      exact hK.out _ _ hw (Below.refl _ _) (rfl)
    exact Inv.Steps.nil
  · intro b1 b2 σ wx hw hd
    cases b1
    · cases b2
      · obtain e6 : (σ 6) = .slice (some ⟨b, 0, none⟩) n c := hd 0 (some 6) (by kernel_rfl) (by decide) (fun h => absurd h (by decide)) (by rfl)
        obtain e7 : (σ 7) = .int .i64 (i : Int) := hd 1 (some 7) (by kernel_rfl) (by decide) (fun h => absurd h (by decide)) (by rfl)
        obtain e13 : (σ 13) = .agg (row8 (g L q)).toArray := hd 7 (some 13) (by kernel_rfl) (by decide) (fun h => absurd h (by decide)) (by rfl)
        obtain e17 : (σ 17) = .agg (row8 (g L i)).toArray := hd 11 (some 17) (by kernel_rfl) (by decide) (fun h => absurd h (by decide)) (by rfl)
        simp only [e6, e7, e13, e17]
        refine Inv.take (i := 2) (v := .slice (some ⟨b, 0, none⟩) n c) (by decide) rfl (by kernel_rfl) (by kernel_rfl) (by kernel_rfl) (fun _ _ _ h => h) (by rfl) (fun w' => ?_) ?_
        · simp only [List.getElem_toArray, List.getElem_cons_zero, List.getElem_cons_succ]
          go_simp
        try simp only [Act.put, List.setIfInBounds_toArray, List.set_cons_zero, List.set_cons_succ]
        refine Inv.take (i := 3) (v := .int .i64 (q : Int)) (by decide) rfl (by kernel_rfl) (by kernel_rfl) (by kernel_rfl) (fun _ _ _ h => h) (by rfl) (fun w' => ?_) ?_
        · simp only [List.getElem_toArray, List.getElem_cons_zero, List.getElem_cons_succ]
          go_simp
        try simp only [Act.put, List.setIfInBounds_toArray, List.set_cons_zero, List.set_cons_succ]
        refine Inv.take (i := 12) (v := .pointer (some ⟨b, i * 8, none⟩)) (by decide) rfl (by kernel_rfl) (by kernel_rfl) (by kernel_rfl) (fun _ _ _ h => h) (by rfl) (fun w' => ?_) ?_
        · simp only [List.getElem_toArray, List.getElem_cons_zero, List.getElem_cons_succ]
          go_simp
        try simp only [Act.put, List.setIfInBounds_toArray, List.set_cons_zero, List.set_cons_succ]
        have T1 := TI.out _ hw
        refine Inv.one (i := 13) (by decide) (by kernel_rfl) (by rfl) (fun K hK => ?_)
        simp only [List.getElem_toArray, List.getElem_cons_zero, List.getElem_cons_succ, Act.put, List.setIfInBounds_toArray, List.set_cons_zero, List.set_cons_succ] at hK ⊢
        refine wp_store_mid 64 (.tmp 18) (.tmp 13) rfl b (i * 8) (row8 (g L q)).toArray rfl rfl T1 rfl (row8_all _) ?_
        refine hK.out _ _ ?_
        clear hK K
        rw [show (row8 (g L q)).toArray.toList = row8 (g L q) from rfl]
        obtain ⟨wy, hwy⟩ : ∃ z, z = wx.setCells b (i * 8) (row8 (g L q)) := ⟨_, rfl⟩
        rw [← hwy]
        replace hwy := Lib.hid hwy
        try simp only [Act.put, List.setIfInBounds_toArray, List.set_cons_zero, List.set_cons_succ]
        refine Inv.take (i := 14) (v := .pointer (some ⟨b, q * 8, none⟩)) (by decide) rfl (by kernel_rfl) (by kernel_rfl) (by kernel_rfl) (fun _ _ _ h => h) (by rfl) (fun w' => ?_) ?_
        · simp only [List.getElem_toArray, List.getElem_cons_zero, List.getElem_cons_succ]
          go_simp
        try simp only [Act.put, List.setIfInBounds_toArray, List.set_cons_zero, List.set_cons_succ]
        have T2 : wy.there b (q * 8) 8 := by rw [hwy.out]; exact TQ.out _ hw
        refine Inv.one (i := 15) (by decide) (by kernel_rfl) (by rfl) (fun K hK => ?_)
        simp only [List.getElem_toArray, List.getElem_cons_zero, List.getElem_cons_succ, Act.put, List.setIfInBounds_toArray, List.set_cons_zero, List.set_cons_succ] at hK ⊢
        refine wp_store_mid 64 (.tmp 19) (.tmp 17) rfl b (q * 8) (row8 (g L i)).toArray rfl rfl T2 rfl (row8_all _) ?_
        refine hK.out _ _ ?_
        clear hK K
        rw [show (row8 (g L i)).toArray.toList = row8 (g L i) from rfl]
        obtain ⟨wz, hwz⟩ : ∃ z, z = wy.setCells b (q * 8) (row8 (g L i)) := ⟨_, rfl⟩
        rw [← hwz]
        replace hwz := Lib.hid hwz
        try simp only [Act.put, List.setIfInBounds_toArray, List.set_cons_zero, List.set_cons_succ]
        refine Inv.done (by kernel_rfl) (NoPanic.normal ?_)
        clear hd e6 e7 e13 e17 T1 T2
        go_wp2_with fail
        refine bodyPost_end (results_none rfl _ _ _) rfl ⟨rfl, ?_, ?_⟩
        · rw [hwz.out, hwy.out]; exact (((H.out.below hw).set hi _).set (by rw [List.length_set]; exact hq) _)
        · rw [hwz.out, hwy.out]; exact grown_cells (grown_cells (grown_low hw) _ _) _ _
      · obtain e6 : (σ 6) = .slice (some ⟨b, 0, none⟩) n c := hd 0 (some 6) (by kernel_rfl) (by decide) (fun h => absurd h (by decide)) (by rfl)
        obtain e7 : (σ 7) = .int .i64 (i : Int) := hd 1 (some 7) (by kernel_rfl) (by decide) (fun h => absurd h (by decide)) (by rfl)
        obtain e13 : (σ 13) = .agg (row8 (g L q)).toArray := hd 7 (some 13) (by kernel_rfl) (by decide) (fun h => absurd h (by decide)) (by rfl)
        obtain e17 : (σ 17) = .agg (row8 (g L i)).toArray := hd 11 (some 17) (by kernel_rfl) (by decide) (fun h => absurd h (by decide)) (by rfl)
        obtain e9 : (σ 9) = .int .i64 (q : Int) := hd 3 (some 9) (by kernel_rfl) (fun h => absurd h (by decide)) (fun _ => rfl) (by rfl)
        simp only [e6, e7, e13, e17, e9]
        refine Inv.take (i := 2) (v := .slice (some ⟨b, 0, none⟩) n c) (by decide) rfl (by kernel_rfl) (by kernel_rfl) (by kernel_rfl) (fun _ _ _ h => h) (by rfl) (fun w' => ?_) ?_
        · simp only [List.getElem_toArray, List.getElem_cons_zero, List.getElem_cons_succ]
          go_simp
        try simp only [Act.put, List.setIfInBounds_toArray, List.set_cons_zero, List.set_cons_succ]
        refine Inv.take (i := 12) (v := .pointer (some ⟨b, i * 8, none⟩)) (by decide) rfl (by kernel_rfl) (by kernel_rfl) (by kernel_rfl) (fun _ _ _ h => h) (by rfl) (fun w' => ?_) ?_
        · simp only [List.getElem_toArray, List.getElem_cons_zero, List.getElem_cons_succ]
          go_simp
        try simp only [Act.put, List.setIfInBounds_toArray, List.set_cons_zero, List.set_cons_succ]
        have T1 := TI.out _ hw
        refine Inv.one (i := 13) (by decide) (by kernel_rfl) (by rfl) (fun K hK => ?_)
        simp only [List.getElem_toArray, List.getElem_cons_zero, List.getElem_cons_succ, Act.put, List.setIfInBounds_toArray, List.set_cons_zero, List.set_cons_succ] at hK ⊢
        refine wp_store_mid 64 (.tmp 18) (.tmp 13) rfl b (i * 8) (row8 (g L q)).toArray rfl rfl T1 rfl (row8_all _) ?_
        refine hK.out _ _ ?_
        clear hK K
        rw [show (row8 (g L q)).toArray.toList = row8 (g L q) from rfl]
        obtain ⟨wy, hwy⟩ : ∃ z, z = wx.setCells b (i * 8) (row8 (g L q)) := ⟨_, rfl⟩
        rw [← hwy]
        replace hwy := Lib.hid hwy
        try simp only [Act.put, List.setIfInBounds_toArray, List.set_cons_zero, List.set_cons_succ]
        refine Inv.take (i := 14) (v := .pointer (some ⟨b, q * 8, none⟩)) (by decide) rfl (by kernel_rfl) (by kernel_rfl) (by kernel_rfl) (fun _ _ _ h => h) (by rfl) (fun w' => ?_) ?_
        · simp only [List.getElem_toArray, List.getElem_cons_zero, List.getElem_cons_succ]
          go_simp
        try simp only [Act.put, List.setIfInBounds_toArray, List.set_cons_zero, List.set_cons_succ]
        have T2 : wy.there b (q * 8) 8 := by rw [hwy.out]; exact TQ.out _ hw
        refine Inv.one (i := 15) (by decide) (by kernel_rfl) (by rfl) (fun K hK => ?_)
        simp only [List.getElem_toArray, List.getElem_cons_zero, List.getElem_cons_succ, Act.put, List.setIfInBounds_toArray, List.set_cons_zero, List.set_cons_succ] at hK ⊢
        refine wp_store_mid 64 (.tmp 19) (.tmp 17) rfl b (q * 8) (row8 (g L i)).toArray rfl rfl T2 rfl (row8_all _) ?_
        refine hK.out _ _ ?_
        clear hK K
        rw [show (row8 (g L i)).toArray.toList = row8 (g L i) from rfl]
        obtain ⟨wz, hwz⟩ : ∃ z, z = wy.setCells b (q * 8) (row8 (g L i)) := ⟨_, rfl⟩
        rw [← hwz]
        replace hwz := Lib.hid hwz
        try simp only [Act.put, List.setIfInBounds_toArray, List.set_cons_zero, List.set_cons_succ]
        refine Inv.done (by kernel_rfl) (NoPanic.normal ?_)
        clear hd e6 e7 e13 e17 T1 T2
        go_wp2_with fail
        refine bodyPost_end (results_none rfl _ _ _) rfl ⟨rfl, ?_, ?_⟩
        · rw [hwz.out, hwy.out]; exact (((H.out.below hw).set hi _).set (by rw [List.length_set]; exact hq) _)
        · rw [hwz.out, hwy.out]; exact grown_cells (grown_cells (grown_low hw) _ _) _ _
    · cases b2
      · obtain e6 : (σ 6) = .slice (some ⟨b, 0, none⟩) n c := hd 0 (some 6) (by kernel_rfl) (by decide) (fun h => absurd h (by decide)) (by rfl)
        obtain e7 : (σ 7) = .int .i64 (i : Int) := hd 1 (some 7) (by kernel_rfl) (by decide) (fun h => absurd h (by decide)) (by rfl)
        obtain e13 : (σ 13) = .agg (row8 (g L q)).toArray := hd 7 (some 13) (by kernel_rfl) (by decide) (fun h => absurd h (by decide)) (by rfl)
        obtain e17 : (σ 17) = .agg (row8 (g L i)).toArray := hd 11 (some 17) (by kernel_rfl) (by decide) (fun h => absurd h (by decide)) (by rfl)
        obtain e8 : (σ 8) = .slice (some ⟨b, 0, none⟩) n c := hd 2 (some 8) (by kernel_rfl) (fun _ => rfl) (fun h => absurd h (by decide)) (by rfl)
        simp only [e6, e7, e13, e17, e8]
        refine Inv.take (i := 3) (v := .int .i64 (q : Int)) (by decide) rfl (by kernel_rfl) (by kernel_rfl) (by kernel_rfl) (fun _ _ _ h => h) (by rfl) (fun w' => ?_) ?_
        · simp only [List.getElem_toArray, List.getElem_cons_zero, List.getElem_cons_succ]
          go_simp
        try simp only [Act.put, List.setIfInBounds_toArray, List.set_cons_zero, List.set_cons_succ]
        refine Inv.take (i := 12) (v := .pointer (some ⟨b, i * 8, none⟩)) (by decide) rfl (by kernel_rfl) (by kernel_rfl) (by kernel_rfl) (fun _ _ _ h => h) (by rfl) (fun w' => ?_) ?_
        · simp only [List.getElem_toArray, List.getElem_cons_zero, List.getElem_cons_succ]
          go_simp
        try simp only [Act.put, List.setIfInBounds_toArray, List.set_cons_zero, List.set_cons_succ]
        have T1 := TI.out _ hw
        refine Inv.one (i := 13) (by decide) (by kernel_rfl) (by rfl) (fun K hK => ?_)
        simp only [List.getElem_toArray, List.getElem_cons_zero, List.getElem_cons_succ, Act.put, List.setIfInBounds_toArray, List.set_cons_zero, List.set_cons_succ] at hK ⊢
        refine wp_store_mid 64 (.tmp 18) (.tmp 13) rfl b (i * 8) (row8 (g L q)).toArray rfl rfl T1 rfl (row8_all _) ?_
        refine hK.out _ _ ?_
        clear hK K
        rw [show (row8 (g L q)).toArray.toList = row8 (g L q) from rfl]
        obtain ⟨wy, hwy⟩ : ∃ z, z = wx.setCells b (i * 8) (row8 (g L q)) := ⟨_, rfl⟩
        rw [← hwy]
        replace hwy := Lib.hid hwy
        try simp only [Act.put, List.setIfInBounds_toArray, List.set_cons_zero, List.set_cons_succ]
        refine Inv.take (i := 14) (v := .pointer (some ⟨b, q * 8, none⟩)) (by decide) rfl (by kernel_rfl) (by kernel_rfl) (by kernel_rfl) (fun _ _ _ h => h) (by rfl) (fun w' => ?_) ?_
        · simp only [List.getElem_toArray, List.getElem_cons_zero, List.getElem_cons_succ]
          go_simp
        try simp only [Act.put, List.setIfInBounds_toArray, List.set_cons_zero, List.set_cons_succ]
        have T2 : wy.there b (q * 8) 8 := by rw [hwy.out]; exact TQ.out _ hw
        refine Inv.one (i := 15) (by decide) (by kernel_rfl) (by rfl) (fun K hK => ?_)
        simp only [List.getElem_toArray, List.getElem_cons_zero, List.getElem_cons_succ, Act.put, List.setIfInBounds_toArray, List.set_cons_zero, List.set_cons_succ] at hK ⊢
        refine wp_store_mid 64 (.tmp 19) (.tmp 17) rfl b (q * 8) (row8 (g L i)).toArray rfl rfl T2 rfl (row8_all _) ?_
        refine hK.out _ _ ?_
        clear hK K
        rw [show (row8 (g L i)).toArray.toList = row8 (g L i) from rfl]
        obtain ⟨wz, hwz⟩ : ∃ z, z = wy.setCells b (q * 8) (row8 (g L i)) := ⟨_, rfl⟩
        rw [← hwz]
        replace hwz := Lib.hid hwz
        try simp only [Act.put, List.setIfInBounds_toArray, List.set_cons_zero, List.set_cons_succ]
        refine Inv.done (by kernel_rfl) (NoPanic.normal ?_)
        clear hd e6 e7 e13 e17 T1 T2
        go_wp2_with fail
        refine bodyPost_end (results_none rfl _ _ _) rfl ⟨rfl, ?_, ?_⟩
        · rw [hwz.out, hwy.out]; exact (((H.out.below hw).set hi _).set (by rw [List.length_set]; exact hq) _)
        · rw [hwz.out, hwy.out]; exact grown_cells (grown_cells (grown_low hw) _ _) _ _
      · obtain e6 : (σ 6) = .slice (some ⟨b, 0, none⟩) n c := hd 0 (some 6) (by kernel_rfl) (by decide) (fun h => absurd h (by decide)) (by rfl)
        obtain e7 : (σ 7) = .int .i64 (i : Int) := hd 1 (some 7) (by kernel_rfl) (by decide) (fun h => absurd h (by decide)) (by rfl)
        obtain e13 : (σ 13) = .agg (row8 (g L q)).toArray := hd 7 (some 13) (by kernel_rfl) (by decide) (fun h => absurd h (by decide)) (by rfl)
        obtain e17 : (σ 17) = .agg (row8 (g L i)).toArray := hd 11 (some 17) (by kernel_rfl) (by decide) (fun h => absurd h (by decide)) (by rfl)
        obtain e8 : (σ 8) = .slice (some ⟨b, 0, none⟩) n c := hd 2 (some 8) (by kernel_rfl) (fun _ => rfl) (fun h => absurd h (by decide)) (by rfl)
        obtain e9 : (σ 9) = .int .i64 (q : Int) := hd 3 (some 9) (by kernel_rfl) (fun h => absurd h (by decide)) (fun _ => rfl) (by rfl)
        simp only [e6, e7, e13, e17, e8, e9]
        refine Inv.take (i := 12) (v := .pointer (some ⟨b, i * 8, none⟩)) (by decide) rfl (by kernel_rfl) (by kernel_rfl) (by kernel_rfl) (fun _ _ _ h => h) (by rfl) (fun w' => ?_) ?_
        · simp only [List.getElem_toArray, List.getElem_cons_zero, List.getElem_cons_succ]
          go_simp
        try simp only [Act.put, List.setIfInBounds_toArray, List.set_cons_zero, List.set_cons_succ]
        have T1 := TI.out _ hw
        refine Inv.one (i := 13) (by decide) (by kernel_rfl) (by rfl) (fun K hK => ?_)
        simp only [List.getElem_toArray, List.getElem_cons_zero, List.getElem_cons_succ, Act.put, List.setIfInBounds_toArray, List.set_cons_zero, List.set_cons_succ] at hK ⊢
        refine wp_store_mid 64 (.tmp 18) (.tmp 13) rfl b (i * 8) (row8 (g L q)).toArray rfl rfl T1 rfl (row8_all _) ?_
        refine hK.out _ _ ?_
        clear hK K
        rw [show (row8 (g L q)).toArray.toList = row8 (g L q) from rfl]
        obtain ⟨wy, hwy⟩ : ∃ z, z = wx.setCells b (i * 8) (row8 (g L q)) := ⟨_, rfl⟩
        rw [← hwy]
        replace hwy := Lib.hid hwy
        try simp only [Act.put, List.setIfInBounds_toArray, List.set_cons_zero, List.set_cons_succ]
        refine Inv.take (i := 14) (v := .pointer (some ⟨b, q * 8, none⟩)) (by decide) rfl (by kernel_rfl) (by kernel_rfl) (by kernel_rfl) (fun _ _ _ h => h) (by rfl) (fun w' => ?_) ?_
        · simp only [List.getElem_toArray, List.getElem_cons_zero, List.getElem_cons_succ]
          go_simp
        try simp only [Act.put, List.setIfInBounds_toArray, List.set_cons_zero, List.set_cons_succ]
        have T2 : wy.there b (q * 8) 8 := by rw [hwy.out]; exact TQ.out _ hw
        refine Inv.one (i := 15) (by decide) (by kernel_rfl) (by rfl) (fun K hK => ?_)
        simp only [List.getElem_toArray, List.getElem_cons_zero, List.getElem_cons_succ, Act.put, List.setIfInBounds_toArray, List.set_cons_zero, List.set_cons_succ] at hK ⊢
        refine wp_store_mid 64 (.tmp 19) (.tmp 17) rfl b (q * 8) (row8 (g L i)).toArray rfl rfl T2 rfl (row8_all _) ?_
        refine hK.out _ _ ?_
        clear hK K
        rw [show (row8 (g L i)).toArray.toList = row8 (g L i) from rfl]
        obtain ⟨wz, hwz⟩ : ∃ z, z = wy.setCells b (q * 8) (row8 (g L i)) := ⟨_, rfl⟩
        rw [← hwz]
        replace hwz := Lib.hid hwz
        try simp only [Act.put, List.setIfInBounds_toArray, List.set_cons_zero, List.set_cons_succ]
        refine Inv.done (by kernel_rfl) (NoPanic.normal ?_)
        clear hd e6 e7 e13 e17 T1 T2
        go_wp2_with fail
        refine bodyPost_end (results_none rfl _ _ _) rfl ⟨rfl, ?_, ?_⟩
        · rw [hwz.out, hwy.out]; exact (((H.out.below hw).set hi _).set (by rw [List.length_set]; exact hq) _)
        · rw [hwz.out, hwy.out]; exact grown_cells (grown_cells (grown_low hw) _ _) _ _
end Loc
end Go.Proofs.YtldgihlhioeipaaGreat

/- queue.Push. -/
set_option linter.unusedVariables false
set_option linter.unusedSimpArgs false
namespace Go.Proofs.YtldgihlhioeipaaGreat
open Go.RowKit
namespace Loc
/-- The cells of a search, its queue in the eleventh one. -/
def At11 (C : Value → Array Value) : Prop := ∀ v, (C v)[11]? = some v ∧ ∀ u, (C v).setIfInBounds 11 u = C u
structure QM (A : World) (S : Nat) (C : Value → Array Value) (w : World) (v : Value) (L : List OB) : Prop where
  bel : Below A.heap.size A w
  ge : A.heap.size ≤ S
  blk : w.heap[S]? = some (.cells (C v) 62 (0, 0))
  own : OwnQ w A.heap.size v L
theorem own_ne8 {w : World} {B : Nat} {v : Value} {L : List OB} {b : Nat} {cs : Array Value} (h : OwnQ w B v L) (hb : w.heap[b]? = some (.cells cs 62 (0, 0))) : v.ownBlock ≠ some b := by
  intro he
  rcases h.2 with ⟨rfl, _⟩ | ⟨g, c, cur, rfl, _, hc, _⟩
  · simp [Value.ownBlock] at he
  · simp [Value.ownBlock] at he
    subst he
    rw [hc] at hb
    simp at hb
/-- Blocks of other types than the search's and its queue's are as they were. -/
def Fr (w w' : World) : Prop := w.heap.size ≤ w'.heap.size ∧ ∀ (k : Nat) (cs : Array Value) (t : TypeId), w.heap[k]? = some (.cells cs t (0, 0)) → t ≠ 64 → t ≠ 62 → w'.heap[k]? = some (.cells cs t (0, 0))
theorem Fr.refl (w : World) : Fr w w := ⟨Nat.le_refl _, fun _ _ _ h _ _ => h⟩
theorem Fr.trans {w w1 w2 : World} (h : Fr w w1) (k : Fr w1 w2) : Fr w w2 := ⟨Nat.le_trans h.1 k.1, fun j cs t e1 e2 e3 => k.2 j cs t (h.2 j cs t e1 e2 e3) e2 e3⟩
theorem Fr.below {w w' : World} (h : Below w.heap.size w w') : Fr w w' := ⟨h.size, fun j cs t e1 _ _ => Mis.hb h e1⟩
theorem Fr.grown {w w' : World} {B : Nat} {v : Value} {L : List OB} (h : OwnQ w B v L) (hg : w.grownBy w' v.ownBlock) : Fr w w' := by
  refine ⟨hg.size, fun j cs t e1 e2 e3 => (hg.block j (Array.getElem?_eq_some_iff.1 e1).1 (fun e => ?_)).trans e1⟩
  rcases h.2 with ⟨rfl, _⟩ | ⟨b, c, cur, rfl, _, hc, _⟩
  · simp [Value.ownBlock] at e
  · obtain rfl : j = b := Option.some.inj (show some j = some b from e)
    rw [hc] at e1
    simp at e1
    exact e2 e1.2.symm
theorem Fr.cells {w : World} {S : Nat} {cs0 : Array Value} (h : w.heap[S]? = some (.cells cs0 62 (0, 0))) (o : Nat) (vs : List Value) : Fr w (w.setCells S o vs) :=
  ⟨by rw [Mid.size]; exact Nat.le_refl _, fun j cs t e1 e2 e3 => (Mid.other S j (fun e => by subst e; rw [h] at e1; simp at e1; exact e3 e1.2.symm) _ _ _).trans e1⟩
theorem Fr.cell {w : World} {S : Nat} {cs0 : Array Value} (h : w.heap[S]? = some (.cells cs0 62 (0, 0))) (o : Nat) (u : Value) : Fr w (w.setCell ⟨S, o, none⟩ u) := Fr.cells h o [u]
theorem below_grown {B : Nat} {A w' : World} {row : Option Nat} (h : A.grownBy w' row) (hB : B ≤ A.heap.size) (hr : ∀ k, row = some k → B ≤ k) : Below B A w' :=
  ⟨h.os, h.tape, h.output, h.size, fun k hk => h.block k (by omega) (fun e => by have := hr k e.symm; omega)⟩
set_option maxHeartbeats 8000000 in
set_option maxRecDepth 100000 in
theorem qpush_any {A w : World} {S : Nat} {C : Value → Array Value} (hC : At11 C) {v : Value} {L : List OB} (h : QM A S C w v L) (hn : L.length ≤ 1000000) (x : OB) :
    Calls Tryz.prog 135 #[.pointer (some ⟨S, 11, none⟩), .iface 64 (.agg (row8 x).toArray)] w fun e w' => e = .returned (.tuple #[]) ∧ ∃ v', QM A S C w' v' (L ++ [x]) ∧ Fr w w' := by
  obtain ⟨ti, hi, hz0, hz1, hz2⟩ : ∃ i, Tryz.prog.info? 64 = some i ∧ i.zero = some (.agg #[.int .i64 0, .int .i64 0, .int .i64 0, .int .i64 0, .int .i64 0, .int .i64 0, .int .i64 0, .int .i64 0]) ∧ i.size = 8 ∧ i.bytes = 64 := ⟨_, rfl, by kernel_rfl, by kernel_rfl, by kernel_rfl⟩
  obtain ⟨ad, n, cc, rfl, hnl⟩ := Mis.own_letter h.own
  have H := Lib.hid h
  have hge := h.ge
  have m1 := Lib.hid (show L.length + 1 ≤ maxLen by unfold maxLen; omega)
  have m2 := Lib.hid (show (L.length + 1) * 64 ≤ 140737488355328 by omega)
  clear h
  have TA : ∀ w, Sem.run Tryz.prog (Instr.typeAssert (Value.iface 64 (Value.agg (row8 x).toArray)) 20 64 true) w = .ok (.tuple #[.agg (row8 x).toArray, .bool true]) w := fun w => by kernel_rfl
  go_enter Tryz.func135, Tryz.ntmps135
  go_upto_region 2 with ((with_reducible refine Mid.str 64 (.tmp 4) (.tmp 9) w.heap.size 64 #[.int .i64 0, .int .i64 0, .int .i64 0, .int .i64 0, .int .i64 0, .int .i64 0, .int .i64 0, .int .i64 0] #[.int .i64 x.a, .int .i64 x.b, .int .i64 x.c, .int .i64 x.d, .int .i64 x.e, .int .i64 x.f, .int .i64 x.bd, .int .i64 x.nr] (heap_alloc_new w _) ?_ ?_ ?_ ?_ ?_ ?_ ?_ ?_); (· rfl); (· rfl); (· first | rfl | simp [Act.eval]); (· first | rfl | simp [Act.eval]); (· kernel_rfl); (· rfl); (· simp [Value.oneCell']))
  try simp only [Act.put]
  obtain ⟨wS, hwS⟩ : ∃ z, z = (w.alloc (.cells #[.int .i64 0, .int .i64 0, .int .i64 0, .int .i64 0, .int .i64 0, .int .i64 0, .int .i64 0, .int .i64 0] 64)).setRow w.heap.size #[.int .i64 x.a, .int .i64 x.b, .int .i64 x.c, .int .i64 x.d, .int .i64 x.e, .int .i64 x.f, .int .i64 x.bd, .int .i64 x.nr] := ⟨_, rfl⟩
  rw [← hwS]
  have N1 : Below w.heap.size w wS := by rw [hwS]; exact Mid.below_row (Mis.new_block _) _ _ (Nat.le_refl _)
  have K4 := Lib.hid (show wS.heap[w.heap.size]? = some (.cells #[.int .i64 x.a, .int .i64 x.b, .int .i64 x.c, .int .i64 x.d, .int .i64 x.e, .int .i64 x.f, .int .i64 x.bd, .int .i64 x.nr] 64 (0, 0)) by rw [hwS]; exact setRow_heap _ _ _ _ _ _ (heap_alloc_new w _))
  have hlt := (Array.getElem?_eq_some_iff.1 H.out.blk).1
  have HB := Lib.hid (Buf.then_ H.out.bel N1)
  have hSS : S < wS.heap.size := Nat.lt_of_lt_of_le hlt N1.size
  have hAS : A.heap.size ≤ wS.heap.size := HB.out.size
  have HS := Lib.hid (Mis.hb N1 H.out.blk)
  have OW := Lib.hid (H.out.own.below N1)
  have OS : Hid (∀ w', Below wS.heap.size wS w' → w'.ownsRow A.heap.size 64 8 (.slice ad n cc) L.length (cells8 L)) := Lib.hid fun w' h' => OW.out.below h'
  have ONE : Hid (∀ w', Below wS.heap.size wS w' → (Value.slice ad n cc).ownBlock ≠ some S) := Lib.hid fun w' h' => own_ne8 (OS.out _ h') (Mis.hb h' HS.out)
  have QS : Hid (∀ w', Below wS.heap.size wS w' → w'.cell? ⟨S, 11, none⟩ = some (.slice ad n cc)) := Lib.hid fun w' h' => (cell_of_row w' S 11 _ _ _ (Mis.hb h' HS.out)).trans (hC _).1
  obtain ⟨p4, hp4⟩ : ∃ z, z = w.heap.size := ⟨_, rfl⟩
  rw [← hp4] at K4 ⊢
  have hw0 : Below wS.heap.size wS wS.drew := (Below.refl _ _).drew
  replace N1 := Lib.hid N1
  clear hwS hp4 OW TA hlt
  refine wp_region_noPanic ?_
  refine wp_region_any (by kernel_rfl) ?_
  refine Inv.wpAny_inv2 (fun k => k == 6 || k == 7 || k == 8) 0 99 [12, 13, 14, 15, 16, 17] (fun w' => Below wS.heap.size wS w') (fun _ w1 w2 => Below w1.heap.size w1 w2) (fun k => ([fun v_ w_ => v_ = .pointer (some ⟨S, 11, none⟩), fun v_ w_ => v_ = .pointer (some ⟨S, 11, none⟩), fun v_ w_ => v_ = .pointer (some ⟨S, 11, none⟩), fun v_ w_ => v_ = .slice ad n cc, fun v_ w_ => v_ = .agg #[.int .i64 x.a, .int .i64 x.b, .int .i64 x.c, .int .i64 x.d, .int .i64 x.e, .int .i64 x.f, .int .i64 x.bd, .int .i64 x.nr], fun v_ w_ => ∃ bo, v_ = .slice (some ⟨bo, 0, none⟩) 1 1 ∧ w_.heap[bo]? = some (.cells #[.int .i64 x.a, .int .i64 x.b, .int .i64 x.c, .int .i64 x.d, .int .i64 x.e, .int .i64 x.f, .int .i64 x.bd, .int .i64 x.nr] 64 (0, 0)) ∧ wS.heap.size ≤ bo, fun v_ w_ => True, fun v_ w_ => True, fun v_ w_ => True] : List (Value → World → Prop)).getD k (fun _ _ => True)) _ (fun σ => by simp only [Inv.putAll, List.foldl_cons, List.foldl_nil, Act.put, List.setIfInBounds_toArray, List.set_cons_zero, List.set_cons_succ]; rfl) (by kernel_rfl) (by kernel_rfl) (by decide) ?_ hw0 ?_ ?_ (fun b1 b2 => cond b1 3 4) (fun b1 b2 => #[b1, true, true, true, true, true, false, false, false]) (by intro b1 b2; cases b1 <;> cases b2 <;> kernel_rfl) (by intro b1 b2; cases b1 <;> cases b2 <;> kernel_rfl) (by exact ⟨rfl, rfl⟩) ?_
  · intro j k v w1 w2 hjk hv hr
    rcases k with _ | k
    · exact hv
    rcases k with _ | k
    · exact hv
    rcases k with _ | k
    · exact hv
    rcases k with _ | k
    · exact hv
    rcases k with _ | k
    · exact hv
    rcases k with _ | k
    · exact by obtain ⟨p, e, h, h0⟩ := hv; exact ⟨p, e, Mis.hb hr h, h0⟩
    rcases k with _ | k
    · exact hv
    rcases k with _ | k
    · exact hv
    rcases k with _ | k
    · exact hv
    · exact hv
  · intro k t hl hd
    rcases k with _ | k
    · exact absurd hl (by decide +kernel)
    rcases k with _ | k
    · exact absurd hl (by decide +kernel)
    rcases k with _ | k
    · exact absurd hl (by decide +kernel)
    rcases k with _ | k
    · exact absurd hl (by decide +kernel)
    rcases k with _ | k
    · exact absurd hl (by decide +kernel)
    rcases k with _ | k
    · exact absurd hl (by decide +kernel)
    rcases k with _ | k
    · exact absurd hl (by decide +kernel)
    rcases k with _ | k
    · exact absurd hl (by decide +kernel)
    rcases k with _ | k
    · exact absurd hl (by decide +kernel)
    · simp at hd
  · show Inv.Steps _ _ _ _ _ _ _ _ [0, 1, 2, 3, 4, 5]
    refine Inv.Steps.go (by decide) (by rfl) (fun σ wx hw hd K hK => ?_) ?_
    · simp only [List.getElem_toArray, List.getElem_cons_zero, List.getElem_cons_succ, Act.put, List.setIfInBounds_toArray, List.set_cons_zero, List.set_cons_succ] at hK ⊢
      go_simp
      exact hK.out _ _ hw (Below.refl _ _) (rfl)
    refine Inv.Steps.go (by decide) (by rfl) (fun σ wx hw hd K hK => ?_) ?_
    · simp only [List.getElem_toArray, List.getElem_cons_zero, List.getElem_cons_succ, Act.put, List.setIfInBounds_toArray, List.set_cons_zero, List.set_cons_succ] at hK ⊢
      go_simp
      exact hK.out _ _ hw (Below.refl _ _) (rfl)
    refine Inv.Steps.go (by decide) (by rfl) (fun σ wx hw hd K hK => ?_) ?_
    · obtain e13 : (σ 13) = .pointer (some ⟨S, 11, none⟩) := hd 1 (some 13) (by kernel_rfl) (by rfl)
      simp only [List.getElem_toArray, List.getElem_cons_zero, List.getElem_cons_succ, Act.put, List.setIfInBounds_toArray, List.set_cons_zero, List.set_cons_succ, e13] at hK ⊢
      go_simp
      exact hK.out _ _ hw (Below.refl _ _) (rfl)
    refine Inv.Steps.go (by decide) (by rfl) (fun σ wx hw hd K hK => ?_) ?_
    · obtain e14 : (σ 14) = .pointer (some ⟨S, 11, none⟩) := hd 2 (some 14) (by kernel_rfl) (by rfl)
      simp only [List.getElem_toArray, List.getElem_cons_zero, List.getElem_cons_succ, Act.put, List.setIfInBounds_toArray, List.set_cons_zero, List.set_cons_succ, e14] at hK ⊢
      have c11 := QS.out _ hw
      go_simp
      exact hK.out _ _ hw (Below.refl _ _) (rfl)
    refine Inv.Steps.go (by decide) (by rfl) (fun σ wx hw hd K hK => ?_) ?_
    · simp only [List.getElem_toArray, List.getElem_cons_zero, List.getElem_cons_succ, Act.put, List.setIfInBounds_toArray, List.set_cons_zero, List.set_cons_succ] at hK ⊢
      have K4x := Mis.hb hw K4.out
      refine wp_load_row 64 (.tmp 4) rfl p4 rfl 64 #[.int .i64 x.a, .int .i64 x.b, .int .i64 x.c, .int .i64 x.d, .int .i64 x.e, .int .i64 x.f, .int .i64 x.bd, .int .i64 x.nr] (0, 0) _ K4x rfl rfl rfl ?_
      simp only [Act.put, List.setIfInBounds_toArray, List.set_cons_zero, List.set_cons_succ]
      exact hK.out _ _ hw (Below.refl _ _) (rfl)
    refine Inv.Steps.go (by decide) (by rfl) (fun σ wx hw hd K hK => ?_) ?_
    · obtain e16 : (σ 16) = .agg #[.int .i64 x.a, .int .i64 x.b, .int .i64 x.c, .int .i64 x.d, .int .i64 x.e, .int .i64 x.f, .int .i64 x.bd, .int .i64 x.nr] := hd 4 (some 16) (by kernel_rfl) (by rfl)
      simp only [List.getElem_toArray, List.getElem_cons_zero, List.getElem_cons_succ, Act.put, List.setIfInBounds_toArray, List.set_cons_zero, List.set_cons_succ, e16] at hK ⊢
      go_simp
      exact hK.out _ _ (Buf.then_ hw (Mis.new_block _)) (Mis.new_block _) (⟨_, rfl, heap_alloc_new _ _, hw.size⟩)
    exact Inv.Steps.nil
  · intro b1 b2 σ wx hw hd
    cases b1
    · obtain e15 : (σ 15) = .slice ad n cc := hd 3 (some 15) (by kernel_rfl) (by decide) (fun h => absurd h (by decide)) (by rfl)
      obtain ⟨bo, e17, P17, g17⟩ : ∃ bo, (σ 17) = .slice (some ⟨bo, 0, none⟩) 1 1 ∧ wx.heap[bo]? = some (.cells #[.int .i64 x.a, .int .i64 x.b, .int .i64 x.c, .int .i64 x.d, .int .i64 x.e, .int .i64 x.f, .int .i64 x.bd, .int .i64 x.nr] 64 (0, 0)) ∧ wS.heap.size ≤ bo := hd 5 (some 17) (by kernel_rfl) (by decide) (fun h => absurd h (by decide)) (by rfl)
      simp only [e15, e17]
      refine Inv.take (i := 0) (v := .pointer (some ⟨S, 11, none⟩)) (by decide) rfl (by kernel_rfl) (by kernel_rfl) (by kernel_rfl) (fun _ _ _ h => h) (by rfl) (fun w' => ?_) ?_
      · simp only [List.getElem_toArray, List.getElem_cons_zero, List.getElem_cons_succ]
        go_simp
      try simp only [Act.put, List.setIfInBounds_toArray, List.set_cons_zero, List.set_cons_succ]
      refine Inv.one (i := 6) (by decide) (by kernel_rfl) (by rfl) (fun K hK => ?_)
      simp only [List.getElem_toArray, List.getElem_cons_zero, List.getElem_cons_succ, Act.put, List.setIfInBounds_toArray, List.set_cons_zero, List.set_cons_succ] at hK ⊢
      refine wp_append_own wx _ _ 60 rfl A.heap.size 64 ti _ 8 64 Tryz.underlying60 hi hz0 hz1 hz2 rfl (by decide) (.slice ad n cc) L.length (cells8 L) rfl (OS.out _ hw) ⟨bo, 0, none⟩ 1 1 (row8 x) rfl (by rfl) (fun j u hu => ?_) (row8_one x) m1.out m2.out (Nat.le_trans hAS hw.size) (fun v' wy ho hg _ => ?_)
      · rw [Addr.add_lit, Nat.zero_add, cell_of_row _ _ _ _ _ _ P17]; exact (show (row8 x).toArray[j]? = some u by rw [List.getElem?_toArray]; exact hu)
      obtain ⟨ad2, n2, c2, rfl, _⟩ := Mis.own_letter ho
      refine hK.out _ _ ?_
      clear hK K
      try simp only [Act.put, List.setIfInBounds_toArray, List.set_cons_zero, List.set_cons_succ]
      refine Inv.take (i := 7) (v := .pointer (some ⟨S, 11, none⟩)) (by decide) rfl (by kernel_rfl) (by kernel_rfl) (by kernel_rfl) (fun _ _ _ h => h) (by rfl) (fun w' => ?_) ?_
      · simp only [List.getElem_toArray, List.getElem_cons_zero, List.getElem_cons_succ]
        go_simp
      try simp only [Act.put, List.setIfInBounds_toArray, List.set_cons_zero, List.set_cons_succ]
      have KS : wy.heap[S]? = some (.cells (C (.slice ad n cc)) 62 (0, 0)) := (hg.block S (Nat.lt_of_lt_of_le hSS hw.size) (fun e => (ONE.out _ hw) e.symm)).trans (Mis.hb hw HS.out)
      have fS := frozen_of_row wy S 11 _ _ KS
      have c11 : wy.cell? ⟨S, 11, none⟩ = some (.slice ad n cc) := (cell_of_row wy S 11 _ _ _ KS).trans (hC _).1
      refine Inv.one (i := 8) (by decide) (by kernel_rfl) (by rfl) (fun K hK => ?_)
      simp only [List.getElem_toArray, List.getElem_cons_zero, List.getElem_cons_succ, Act.put, List.setIfInBounds_toArray, List.set_cons_zero, List.set_cons_succ] at hK ⊢
      go_simp
      refine hK.out _ _ ?_
      clear hK K
      refine Inv.done (by kernel_rfl) (NoPanic.normal ?_)
      have Q2 : QM A S C (wy.setCell ⟨S, 11, none⟩ (.slice ad2 n2 c2)) (.slice ad2 n2 c2) (L ++ [x]) := by
        have ho2 : OwnQ wy A.heap.size (.slice ad2 n2 c2) (L ++ [x]) := by unfold OwnQ; rw [cells8_snoc, List.length_append]; exact ho
        refine ⟨(Below.trans (Buf.then_ HB.out hw) (below_grown hg (Nat.le_trans hAS hw.size) (fun k hk => ((OS.out _ hw).lt k hk).1))).setCell hge _, hge, ?_, ho2.same fun k hk => Below.heap_setCell wy _ _ k (fun e => ?_)⟩
        · rw [heap_setCell_same wy S 11 _ _ _ KS, (hC _).2]
        · exact own_ne8 ho2 KS (by rw [hk, e])
      have FR := Lib.hid ((Fr.below (Buf.then_ N1.out hw)).trans ((Fr.grown (OS.out _ hw) hg).trans (Fr.cell KS 11 (.slice ad2 n2 c2))))
      replace Q2 := Lib.hid Q2
      clear hd hw e15 e17 KS fS c11 P17 ho hg
      go_wp2_with fail
      exact bodyPost_end (results_none rfl _ _ _) rfl ⟨rfl, _, Q2.out, FR.out⟩
    · obtain e15 : (σ 15) = .slice ad n cc := hd 3 (some 15) (by kernel_rfl) (by decide) (fun h => absurd h (by decide)) (by rfl)
      obtain ⟨bo, e17, P17, g17⟩ : ∃ bo, (σ 17) = .slice (some ⟨bo, 0, none⟩) 1 1 ∧ wx.heap[bo]? = some (.cells #[.int .i64 x.a, .int .i64 x.b, .int .i64 x.c, .int .i64 x.d, .int .i64 x.e, .int .i64 x.f, .int .i64 x.bd, .int .i64 x.nr] 64 (0, 0)) ∧ wS.heap.size ≤ bo := hd 5 (some 17) (by kernel_rfl) (by decide) (fun h => absurd h (by decide)) (by rfl)
      obtain e12 : (σ 12) = .pointer (some ⟨S, 11, none⟩) := hd 0 (some 12) (by kernel_rfl) (fun _ => rfl) (fun h => absurd h (by decide)) (by rfl)
      simp only [e15, e17, e12]
      refine Inv.one (i := 6) (by decide) (by kernel_rfl) (by rfl) (fun K hK => ?_)
      simp only [List.getElem_toArray, List.getElem_cons_zero, List.getElem_cons_succ, Act.put, List.setIfInBounds_toArray, List.set_cons_zero, List.set_cons_succ] at hK ⊢
      refine wp_append_own wx _ _ 60 rfl A.heap.size 64 ti _ 8 64 Tryz.underlying60 hi hz0 hz1 hz2 rfl (by decide) (.slice ad n cc) L.length (cells8 L) rfl (OS.out _ hw) ⟨bo, 0, none⟩ 1 1 (row8 x) rfl (by rfl) (fun j u hu => ?_) (row8_one x) m1.out m2.out (Nat.le_trans hAS hw.size) (fun v' wy ho hg _ => ?_)
      · rw [Addr.add_lit, Nat.zero_add, cell_of_row _ _ _ _ _ _ P17]; exact (show (row8 x).toArray[j]? = some u by rw [List.getElem?_toArray]; exact hu)
      obtain ⟨ad2, n2, c2, rfl, _⟩ := Mis.own_letter ho
      refine hK.out _ _ ?_
      clear hK K
      try simp only [Act.put, List.setIfInBounds_toArray, List.set_cons_zero, List.set_cons_succ]
      refine Inv.take (i := 7) (v := .pointer (some ⟨S, 11, none⟩)) (by decide) rfl (by kernel_rfl) (by kernel_rfl) (by kernel_rfl) (fun _ _ _ h => h) (by rfl) (fun w' => ?_) ?_
      · simp only [List.getElem_toArray, List.getElem_cons_zero, List.getElem_cons_succ]
        go_simp
      try simp only [Act.put, List.setIfInBounds_toArray, List.set_cons_zero, List.set_cons_succ]
      have KS : wy.heap[S]? = some (.cells (C (.slice ad n cc)) 62 (0, 0)) := (hg.block S (Nat.lt_of_lt_of_le hSS hw.size) (fun e => (ONE.out _ hw) e.symm)).trans (Mis.hb hw HS.out)
      have fS := frozen_of_row wy S 11 _ _ KS
      have c11 : wy.cell? ⟨S, 11, none⟩ = some (.slice ad n cc) := (cell_of_row wy S 11 _ _ _ KS).trans (hC _).1
      refine Inv.one (i := 8) (by decide) (by kernel_rfl) (by rfl) (fun K hK => ?_)
      simp only [List.getElem_toArray, List.getElem_cons_zero, List.getElem_cons_succ, Act.put, List.setIfInBounds_toArray, List.set_cons_zero, List.set_cons_succ] at hK ⊢
      go_simp
      refine hK.out _ _ ?_
      clear hK K
      refine Inv.done (by kernel_rfl) (NoPanic.normal ?_)
      have Q2 : QM A S C (wy.setCell ⟨S, 11, none⟩ (.slice ad2 n2 c2)) (.slice ad2 n2 c2) (L ++ [x]) := by
        have ho2 : OwnQ wy A.heap.size (.slice ad2 n2 c2) (L ++ [x]) := by unfold OwnQ; rw [cells8_snoc, List.length_append]; exact ho
        refine ⟨(Below.trans (Buf.then_ HB.out hw) (below_grown hg (Nat.le_trans hAS hw.size) (fun k hk => ((OS.out _ hw).lt k hk).1))).setCell hge _, hge, ?_, ho2.same fun k hk => Below.heap_setCell wy _ _ k (fun e => ?_)⟩
        · rw [heap_setCell_same wy S 11 _ _ _ KS, (hC _).2]
        · exact own_ne8 ho2 KS (by rw [hk, e])
      have FR := Lib.hid ((Fr.below (Buf.then_ N1.out hw)).trans ((Fr.grown (OS.out _ hw) hg).trans (Fr.cell KS 11 (.slice ad2 n2 c2))))
      replace Q2 := Lib.hid Q2
      clear hd hw e15 e17 KS fS c11 P17 ho hg
      go_wp2_with fail
      exact bodyPost_end (results_none rfl _ _ _) rfl ⟨rfl, _, Q2.out, FR.out⟩
end Loc
end Go.Proofs.YtldgihlhioeipaaGreat

/- container/heap: up, Push. -/
set_option linter.unusedVariables false
set_option linter.unusedSimpArgs false
namespace Go.Proofs.YtldgihlhioeipaaGreat
open Go.RowKit
namespace Loc
section
variable {A w w' : World} {S : Nat} {C : Value → Array Value} {v : Value} {L M : List OB} {b n c : Nat}
theorem QM.below (h : QM A S C w v L) (hb : Below w.heap.size w w') : QM A S C w' v L :=
  ⟨Buf.then_ h.bel hb, h.ge, Mis.hb hb h.blk, h.own.below hb⟩
theorem QM.grown (h : QM A S C w (.slice (some ⟨b, 0, none⟩) n c) L) (ho : OwnQ w' A.heap.size (.slice (some ⟨b, 0, none⟩) n c) M) (hg : w.grownBy w' (some b)) : QM A S C w' (.slice (some ⟨b, 0, none⟩) n c) M := by
  have hb := h.own.lt b rfl
  have hne : b ≠ S := fun e => own_ne8 h.own h.blk (by rw [← e]; rfl)
  refine ⟨h.bel.trans (below_grown hg h.bel.size fun k hk => by injection hk with hk; omega), h.ge, ?_, ho⟩
  rw [hg.block S (Array.getElem?_eq_some_iff.1 h.blk).1 (fun e => hne (by injection e with e; exact e.symm))]
  exact h.blk
theorem QM.cell (hC : At11 C) (h : QM A S C w v L) : w.cell? ⟨S, 11, none⟩ = some v := (cell_of_row w S 11 _ _ _ h.blk).trans (hC _).1
end
theorem wrap_nil (tys : Array TypeId) (ty : TypeId) (a : Addr) (name : String) : Builtin.ssaWrapNilChk_ tys ty #[.pointer (some a), strVal "", strVal name] = pure (.pointer (some a)) := rfl
theorem run_info {P : Program} {t : TypeId} {i : TypeInfo} (hi : P.info? t = some i) (w : World) : (typeInfo t).run P w = .ok i w := by simp [typeInfo, hi]
/-- A call through an interface that holds a pointer, of a method of what it points to. -/
theorem run_method_ptr {P : Program} {f : Nat} {t elem : TypeId} {name : String} {fid : FuncId} {a : Addr} {v : Value} {w : World} (hm : (P.info? t).bind (fun i => (i.methods.find? (·.name == name)).map fun m => (m.path, m.func)) = some (#[], some (fid, false))) (hu : P.underlying t = some (.pointer elem)) (hl : (loadVar elem a).run P w = .ok v w) : (method (f + 1) t (.pointer (some a)) name).run P w = .ok (fid, v) w := by
  cases hi : P.info? t with
  | none => rw [hi] at hm; cases hm
  | some i =>
    rw [hi] at hm
    simp only [Option.bind_some] at hm
    cases hq : i.methods.find? (·.name == name) with
    | none => rw [hq] at hm; cases hm
    | some m =>
      rw [hq] at hm
      simp only [Option.map_some, Option.some.injEq, Prod.mk.injEq] at hm
      obtain ⟨hp, hf⟩ := hm
      unfold method
      simp only [Sem.run_bind, run_info hi, Result.andThen_ok, hq, hp, hf, follow, receiverAt, run_underlying hu, Place.get, Sem.run_pure, wrap_nil, asAddr, hl, Array.isEmpty_empty, if_true, List.toList_toArray]
set_option maxRecDepth 100000 in
theorem m_less {S n c : Nat} {ad : Option Addr} {w : World} (h : w.cell? ⟨S, 11, none⟩ = some (.slice ad n c)) (f : Nat) : Sem.run Tryz.prog (method (f + 1) 108 (Value.pointer (some ⟨S, 11, none⟩)) "Less") w = .ok (132, .slice ad n c) w := by
  refine run_method_ptr (elem := 60) (by kernel_rfl) (by kernel_rfl) ?_
  simp [loadVar, h, go_sem]
set_option maxRecDepth 100000 in
theorem m_len {S n c : Nat} {ad : Option Addr} {w : World} (h : w.cell? ⟨S, 11, none⟩ = some (.slice ad n c)) (f : Nat) : Sem.run Tryz.prog (method (f + 1) 108 (Value.pointer (some ⟨S, 11, none⟩)) "Len") w = .ok (131, .slice ad n c) w := by
  refine run_method_ptr (elem := 60) (by kernel_rfl) (by kernel_rfl) ?_
  simp [loadVar, h, go_sem]
set_option maxRecDepth 100000 in
theorem m_swap {S n c : Nat} {ad : Option Addr} {w : World} (h : w.cell? ⟨S, 11, none⟩ = some (.slice ad n c)) (f : Nat) : Sem.run Tryz.prog (method (f + 1) 108 (Value.pointer (some ⟨S, 11, none⟩)) "Swap") w = .ok (133, .slice ad n c) w := by
  refine run_method_ptr (elem := 60) (by kernel_rfl) (by kernel_rfl) ?_
  simp [loadVar, h, go_sem]
set_option maxHeartbeats 8000000 in
set_option maxRecDepth 100000 in
theorem up_any {A w : World} {S : Nat} {C : Value → Array Value} (hC : At11 C) {b n c : Nat} {L : List OB} (h : QM A S C w (.slice (some ⟨b, 0, none⟩) n c) L) (hn : L.length ≤ 1000000) (f j : Nat) (hj : j < L.length) (hf : j < f) :
    Calls Tryz.prog 81 #[.iface 108 (.pointer (some ⟨S, 11, none⟩)), .int .i64 (j : Int)] w fun e w' => e = .returned (.tuple #[]) ∧ QM A S C w' (.slice (some ⟨b, 0, none⟩) n c) (up f L j) ∧ Fr w w' := by
  have hnl := h.own.len
  have n9 : n ≤ 1000000 := by omega
  obtain ⟨R, hR⟩ : ∃ R, R = up f L j := ⟨_, rfl⟩
  have h0 : Hid (R = up f L j) := Lib.hid hR
  rw [← hR]
  have H := Lib.hid h
  have hl0 : Hid (n = L.length) := Lib.hid hnl
  clear h hR hnl hn
  have hj0 : j < n := by rw [hl0.out]; exact hj
  clear hj
  have FR0 := Lib.hid (Fr.refl w)
  go_enter Tryz.func81, Tryz.ntmps81
  go_wp2_with fail
  go_loopw [1] (fun u wr => ∃ (f j : Nat) (M : List OB), u = .int .i64 (j : Int) ∧ j < f ∧ j < n ∧ Hid (n = M.length) ∧ Hid (QM A S C wr (.slice (some ⟨b, 0, none⟩) n c) M) ∧ Hid (R = up f M j) ∧ Hid (Fr w wr)) (fun u _ => (intOf u).toNat)
  case atStart => exact ⟨f, j, L, rfl, hf, hj0, hl0, H, h0, FR0⟩
  case round =>
    clear H h0 hl0 hf hj0 FR0
    obtain ⟨f, j, M, rfl, hf, hj, hl, H, h0, FR⟩ := hrel
    obtain ⟨f, rfl⟩ : ∃ f', f = f' + 1 := ⟨f - 1, by omega⟩
    have hu := h0.out
    unfold up at hu
    clear h0
    have c11 := H.out.cell hC
    have M1 := m_less c11
    have M2 := m_swap c11
    by_cases hz : j = 0
    · subst hz
      rw [if_pos (by rfl)] at hu
      subst hu
      go_wp2_with fail
      exact bodyPost_end (results_none rfl _ _ _) rfl ⟨rfl, H.out, FR.out⟩
    · rw [if_neg (by omega)] at hu
      obtain ⟨i, hi⟩ : ∃ i, i = (j - 1) / 2 := ⟨_, rfl⟩
      rw [← hi] at hu
      have hij : i < j := by omega
      have e1 : ((j : Int) - 1) / 2 = (i : Int) := by omega
      have e2 : ((j : Int) - 1).tdiv 2 = (i : Int) := by rw [Int.tdiv_eq_ediv_of_nonneg (by omega)]; exact e1
      have d1 : ((i : Int) == (j : Int)) = false := by simp; omega
      have hjm : j < M.length := by rw [← hl.out]; exact hj
      have him : i < M.length := by omega
      have LS := Lib.hid (less_any H.out.own n9 hjm him)
      have SW := fun w' (hw : Below wr.heap.size wr w') => swap_any (H.out.own.below hw) n9 him hjm
      obtain ⟨r, hr⟩ : ∃ r, r = ltb (g M j) (g M i) := ⟨_, rfl⟩
      rw [← hr] at hu LS
      replace hi := Lib.hid hi
      replace hr := Lib.hid hr
      replace SW := Lib.hid SW
      clear him hjm
      cases r with
      | false =>
        rw [if_neg (by simp)] at hu
        subst hu
        go_wp2_with (go_at_call 132; refine LS.out.mono ?_; rintro e w2 ⟨rfl, b2⟩)
        exact bodyPost_end (results_none rfl _ _ _) rfl ⟨rfl, H.out.below b2, FR.out.trans (Fr.below b2)⟩
      | true =>
        rw [if_pos rfl] at hu
        replace hu := Lib.hid hu
        go_wp2_with fail
        refine LS.out.mono ?_
        rintro e w2 ⟨rfl, b2⟩
        have H2 := Lib.hid (H.out.below b2)
        have SW2 := Lib.hid (SW.out w2 b2)
        clear M1 M2 c11
        have M2 := m_swap (H2.out.cell hC)
        go_wp2_with fail
        refine SW2.out.mono ?_
        rintro e w3 ⟨rfl, ho, hg⟩
        have H3 := Lib.hid (H2.out.grown ho hg)
        have FR3 := Lib.hid (FR.out.trans ((Fr.below b2).trans (Fr.grown H2.out.own hg)))
        clear ho hg M2
        go_wp2_with fail
        go_roundw
        case rel => exact ⟨f, i, sw M i j, rfl, by omega, by omega, by rw [sw_len]; exact hl, H3, hu, FR3⟩
        case measure => simp [intOf]; omega
theorem up_more : ∀ (f f' : Nat) (L : List OB) (j : Nat), j < f → f ≤ f' → up f' L j = up f L j
  | 0, _, _, _, h, _ => absurd h (Nat.not_lt_zero _)
  | f + 1, 0, _, _, _, h => absurd h (by omega)
  | f + 1, f' + 1, L, j, h1, h2 => by
    unfold up
    split
    · rfl
    · split
      · exact up_more f f' _ _ (by omega) (by omega)
      · rfl
set_option maxHeartbeats 8000000 in
set_option maxRecDepth 100000 in
theorem hpush_any {A w : World} {S : Nat} {C : Value → Array Value} (hC : At11 C) {v : Value} {L : List OB} (h : QM A S C w v L) (hn : L.length ≤ 900000) (x : OB) :
    Calls Tryz.prog 58 #[.iface 108 (.pointer (some ⟨S, 11, none⟩)), .iface 64 (.agg (row8 x).toArray)] w fun e w' => e = .returned (.tuple #[]) ∧ ∃ v', QM A S C w' v' (push L x) ∧ Fr w w' := by
  have H := Lib.hid h
  clear h
  go_enter Tryz.func58, Tryz.ntmps58
  go_wp2_with fail
  refine (qpush_any hC H.out (by omega) x).mono ?_
  rintro e w2 ⟨rfl, v2, h2, fr2⟩
  replace fr2 := Lib.hid fr2
  obtain ⟨ad, n, c, rfl, _⟩ := Mis.own_letter h2.own
  obtain ⟨b, rfl, hl, _, _⟩ := h2.own.addr (by simp)
  have c11 := m_len (h2.cell hC)
  have hl2 : n = L.length + 1 := by rw [hl]; simp
  subst hl2
  clear hl
  have U := Lib.hid (up_any hC h2 (by simp; omega) (L.length + 1) L.length (by simp) (by omega))
  clear h2
  go_wp2_with (go_at_call 131; refine (len_any _ _ _ _).mono ?_; rintro e w3 ⟨rfl, hw⟩; replace hw := hw.symm; subst hw)
  refine U.out.mono ?_
  rintro e w4 ⟨rfl, h4, fr4⟩
  go_wp2_with fail
  exact bodyPost_end (results_none rfl _ _ _) rfl ⟨rfl, _, h4, fr2.out.trans fr4⟩
end Loc
end Go.Proofs.YtldgihlhioeipaaGreat

/- container/heap: down, Pop; queue.Pop. -/
set_option linter.unusedVariables false
set_option linter.unusedSimpArgs false
namespace Go.Proofs.YtldgihlhioeipaaGreat
open Go.RowKit
namespace Loc
set_option maxHeartbeats 8000000 in
set_option maxRecDepth 100000 in
theorem down_any {A w : World} {S : Nat} {C : Value → Array Value} (hC : At11 C) {b n c : Nat} {L : List OB} (h : QM A S C w (.slice (some ⟨b, 0, none⟩) n c) L) (hn : L.length ≤ 1000000) (f i n0 : Nat) (hi : i ≤ n0) (h0 : n0 ≤ L.length) (hf : n0 < f + i) :
    Calls Tryz.prog 82 #[.iface 108 (.pointer (some ⟨S, 11, none⟩)), .int .i64 (i : Int), .int .i64 (n0 : Int)] w fun e w' => (∃ r, e = .returned (.bool r)) ∧ QM A S C w' (.slice (some ⟨b, 0, none⟩) n c) (down f L i n0) ∧ Fr w w' := by
  have hnl := h.own.len
  have n9 : n ≤ 1000000 := by omega
  have n09 : n0 ≤ 1000000 := by omega
  obtain ⟨R, hR⟩ : ∃ R, R = down f L i n0 := ⟨_, rfl⟩
  have hr0 : Hid (R = down f L i n0) := Lib.hid hR
  rw [← hR]
  have H := Lib.hid h
  have hl0 : Hid (n0 ≤ L.length) := Lib.hid h0
  clear h hR hnl hn h0
  have FR0 := Lib.hid (Fr.refl w)
  go_enter Tryz.func82, Tryz.ntmps82
  go_wp2_with fail
  go_loopw [7] (fun u wr => ∃ (f i : Nat) (M : List OB), u = .int .i64 (i : Int) ∧ n0 < f + i ∧ i ≤ n0 ∧ Hid (n0 ≤ M.length) ∧ Hid (QM A S C wr (.slice (some ⟨b, 0, none⟩) n c) M) ∧ Hid (R = down f M i n0) ∧ Hid (Fr w wr)) (fun u _ => n0 - (intOf u).toNat)
  case atStart => exact ⟨f, i, L, rfl, hf, hi, hl0, H, hr0, FR0⟩
  case round =>
    clear H hr0 hl0 hf FR0
    obtain ⟨f, q, M, rfl, hf, hq, hl, H, hr0, FR⟩ := hrel
    obtain ⟨f, rfl⟩ : ∃ f', f = f' + 1 := ⟨f - 1, by omega⟩
    have hu := hr0.out
    unfold down at hu
    clear hr0
    have c11 := H.out.cell hC
    by_cases hz : 2 * q + 1 < n0
    · rw [if_pos hz] at hu
      have z1 : ¬ ((2 : Int) * (q : Int) + 1 ≥ (n0 : Int)) := by omega
      have z2 : ¬ ((2 : Int) * (q : Int) + 1 < 0) := by omega
      obtain ⟨j1, hj1⟩ : ∃ j1 : Nat, j1 = 2 * q + 1 := ⟨_, rfl⟩
      have e1 : (2 : Int) * (q : Int) + 1 = (j1 : Int) := by omega
      have z3 : ((j1 : Int) ≥ (n0 : Int)) = False := by simp; omega
      have z4 : ((j1 : Int) < 0) = False := by simp
      have hj2 : j1 < n0 := by omega
      obtain ⟨j2, hj2e⟩ : ∃ j2 : Nat, j2 = j1 + 1 := ⟨_, rfl⟩
      have e2 : (j1 : Int) + 1 = (j2 : Int) := by omega
      obtain ⟨cj, hcj⟩ : ∃ cj, cj = chd M q n0 := ⟨_, rfl⟩
      have hcj2 : cj < n0 ∧ q < cj := by rw [hcj]; unfold chd; split <;> omega
      obtain ⟨hc1, hc2⟩ := hcj2
      rw [← hcj] at hu
      have hlm := hl.out
      have LS2 := fun w' (hw : Below wr.heap.size wr w') => less_any (H.out.below hw).own n9 (show cj < M.length by omega) (show q < M.length by omega)
      have SW := fun w' (hw : Below wr.heap.size wr w') => swap_any (H.out.below hw).own n9 (show q < M.length by omega) (show cj < M.length by omega)
      obtain ⟨r, hr⟩ : ∃ r, r = ltb (g M cj) (g M q) := ⟨_, rfl⟩
      rw [← hr] at hu LS2
      replace hu : Hid (R = if r = true then down f (sw M q cj) cj n0 else M) := Lib.hid hu
      replace LS2 := Lib.hid LS2
      replace SW := Lib.hid SW
      replace hr := Lib.hid hr
      have rest : ∀ wx, Below wr.heap.size wr wx → Hid (QM A S C wx (.slice (some ⟨b, 0, none⟩) n c) M) := fun wx hx => Lib.hid (H.out.below hx)
      have B0 := Below.refl wr.heap.size wr
      by_cases hb2 : j2 < n0
      · have LS1 := Lib.hid (less_any H.out.own n9 (show j2 < M.length by omega) (show j1 < M.length by omega))
        obtain ⟨r1, hr1⟩ : ∃ r1, r1 = ltb (g M j2) (g M j1) := ⟨_, rfl⟩
        rw [← hr1] at LS1
        have hcc : cj = if r1 = true then j2 else j1 := by
          rw [hcj, hr1]; unfold chd
          rw [show 2 * q + 2 = j2 by omega, show 2 * q + 1 = j1 by omega]
          by_cases hh : ltb (g M j2) (g M j1) = true
          · rw [if_pos ⟨hb2, hh⟩, if_pos hh]
          · rw [if_neg (fun k => hh k.2), if_neg hh]
        replace hcj := Lib.hid hcj
        replace hj1 := Lib.hid hj1
        replace hr1 := Lib.hid hr1
        clear hlm
        have M1 := m_less c11
        have d2 : decide (j2 < n0) = true := by simp; omega
        replace hj2e := Lib.hid hj2e
        cases r1 with
        | true =>
          rw [if_pos rfl] at hcc
          obtain rfl : j2 = cj := hcc.symm
          go_wp2_with fail
          refine LS1.out.mono ?_
          rintro e w6 ⟨rfl, b6⟩
          have M3 := m_less ((rest _ b6).out.cell hC)
          clear M1 c11
          go_wp2_with fail
          refine (LS2.out _ b6).mono ?_
          rintro e w8 ⟨rfl, b8⟩
          have B8 := Buf.then_ b6 b8
          have H8 := rest _ B8
          cases r with
          | false =>
            have hu2 := hu.out
            rw [if_neg (by simp)] at hu2
            subst hu2
            go_wp2_with fail
            go_ret
            exact ⟨⟨_, rfl⟩, H8.out, FR.out.trans (Fr.below B8)⟩
          | true =>
            have hu2 := hu.out
            rw [if_pos rfl] at hu2
            replace hu2 := Lib.hid hu2
            have M5 := m_swap (H8.out.cell hC)
            go_wp2_with fail
            refine (SW.out _ B8).mono ?_
            rintro e w9 ⟨rfl, ho, hg⟩
            have H9 := Lib.hid (H8.out.grown ho hg)
            have FR9 := Lib.hid (FR.out.trans ((Fr.below B8).trans (Fr.grown H8.out.own hg)))
            clear ho hg M5
            go_wp2_with fail
            go_roundw
            case rel => exact ⟨f, _, sw M q _, rfl, by omega, by omega, by rw [sw_len]; exact hl, H9, hu2, FR9⟩
            case measure => simp [intOf]; omega
        | false =>
          rw [if_neg (by simp)] at hcc
          obtain rfl : j1 = cj := hcc.symm
          go_wp2_with fail
          refine LS1.out.mono ?_
          rintro e w6 ⟨rfl, b6⟩
          have M3 := m_less ((rest _ b6).out.cell hC)
          clear M1 c11
          go_wp2_with fail
          refine (LS2.out _ b6).mono ?_
          rintro e w8 ⟨rfl, b8⟩
          have B8 := Buf.then_ b6 b8
          have H8 := rest _ B8
          cases r with
          | false =>
            have hu2 := hu.out
            rw [if_neg (by simp)] at hu2
            subst hu2
            go_wp2_with fail
            go_ret
            exact ⟨⟨_, rfl⟩, H8.out, FR.out.trans (Fr.below B8)⟩
          | true =>
            have hu2 := hu.out
            rw [if_pos rfl] at hu2
            replace hu2 := Lib.hid hu2
            have M5 := m_swap (H8.out.cell hC)
            go_wp2_with fail
            refine (SW.out _ B8).mono ?_
            rintro e w9 ⟨rfl, ho, hg⟩
            have H9 := Lib.hid (H8.out.grown ho hg)
            have FR9 := Lib.hid (FR.out.trans ((Fr.below B8).trans (Fr.grown H8.out.own hg)))
            clear ho hg M5
            go_wp2_with fail
            go_roundw
            case rel => exact ⟨f, _, sw M q _, rfl, by omega, by omega, by rw [sw_len]; exact hl, H9, hu2, FR9⟩
            case measure => simp [intOf]; omega
      · have hcc : cj = j1 := by
          rw [hcj]; unfold chd
          rw [if_neg (fun k => hb2 (by have := k.1; omega))]; omega
        obtain rfl : j1 = cj := hcc.symm
        replace hcj := Lib.hid hcj
        replace hj1 := Lib.hid hj1
        replace hj2e := Lib.hid hj2e
        clear hlm
        have M3 := m_less c11
        have d2 : decide (j2 < n0) = false := by simp; omega
        go_wp2_with fail
        refine (LS2.out _ B0).mono ?_
        rintro e w8 ⟨rfl, b8⟩
        have B8 := Buf.then_ B0 b8
        have H8 := rest _ B8
        cases r with
        | false =>
          have hu2 := hu.out
          rw [if_neg (by simp)] at hu2
          subst hu2
          go_wp2_with fail
          go_ret
          exact ⟨⟨_, rfl⟩, H8.out, FR.out.trans (Fr.below B8)⟩
        | true =>
          have hu2 := hu.out
          rw [if_pos rfl] at hu2
          replace hu2 := Lib.hid hu2
          have M5 := m_swap (H8.out.cell hC)
          go_wp2_with fail
          refine (SW.out _ B8).mono ?_
          rintro e w9 ⟨rfl, ho, hg⟩
          have H9 := Lib.hid (H8.out.grown ho hg)
          have FR9 := Lib.hid (FR.out.trans ((Fr.below B8).trans (Fr.grown H8.out.own hg)))
          clear ho hg M5
          go_wp2_with fail
          go_roundw
          case rel => exact ⟨f, _, sw M q _, rfl, by omega, by omega, by rw [sw_len]; exact hl, H9, hu2, FR9⟩
          case measure => simp [intOf]; omega
    · rw [if_neg hz] at hu
      subst hu
      have z1 : (2 : Int) * (q : Int) + 1 ≥ (n0 : Int) := by omega
      have z3 : ((2 : Int) * (q : Int) + 1 ≥ (n0 : Int)) = True := by simp; omega
      go_wp2_with fail
      go_ret
      exact ⟨⟨_, rfl⟩, H.out, FR.out⟩
end Loc
end Go.Proofs.YtldgihlhioeipaaGreat

/- queue.Pop; container/heap.Pop. -/
set_option linter.unusedVariables false
set_option linter.unusedSimpArgs false
namespace Go.Proofs.YtldgihlhioeipaaGreat
open Go.RowKit
namespace Loc
theorem cells8_take (L : List OB) : ∀ k, cells8 (L.take k) = (cells8 L).take (k * 8) := by
  induction L with
  | nil => intro k; simp [cells8]
  | cons o L ih =>
    intro k
    cases k with
    | zero => simp [cells8]
    | succ k => rw [List.take_succ_cons, cells8_cons, cells8_cons, ih k, show (k + 1) * 8 = (row8 o).length + k * 8 by rw [row8_len]; omega, List.take_length_add_append]
theorem OwnQ.less {w : World} {B b n c : Nat} {L : List OB} (h : OwnQ w B (.slice (some ⟨b, 0, none⟩) n c) L) {k : Nat} (hk : k ≤ L.length) : OwnQ w B (.slice (some ⟨b, 0, none⟩) k c) (L.take k) := by
  have hkl : (L.take k).length = k := by rw [List.length_take]; omega
  refine ⟨by rw [cells8_len], ?_⟩
  rcases h.2 with ⟨e1, e⟩ | ⟨b', c', cur, e, hb, hc, hn, hm, hs, ht⟩
  · cases e1
  · injection e with e1 e2 e3
    obtain rfl : b = b' := by injection e1 with e1; injection e1
    refine .inr ⟨b, c', cur, by rw [e3, hkl], hb, hc, by rw [hkl]; omega, hm, hs, ?_⟩
    rw [hkl, cells8_take, ← ht, List.take_take, Nat.min_eq_left (Nat.mul_le_mul_right 8 hk)]
theorem OwnQ.ne_b {w : World} {B b n c S : Nat} {L : List OB} {cs : Array Value} (h : OwnQ w B (.slice (some ⟨b, 0, none⟩) n c) L) (hb : w.heap[S]? = some (.cells cs 62 (0, 0))) : b ≠ S := fun e => own_ne8 h hb (congrArg some e)
set_option maxHeartbeats 8000000 in
set_option maxRecDepth 100000 in
theorem qpop_any {A w : World} {S : Nat} {C : Value → Array Value} (hC : At11 C) {b n c : Nat} {L : List OB} (h : QM A S C w (.slice (some ⟨b, 0, none⟩) n c) L) (hn : L.length ≤ 1000000) (k : Nat) (hk : L.length = k + 1) :
    Calls Tryz.prog 134 #[.pointer (some ⟨S, 11, none⟩)] w fun e w' => (∃ r, e = .returned r) ∧ QM A S C w' (.slice (some ⟨b, 0, none⟩) k c) (L.take k) ∧ Fr w w' := by
  have hnl := h.own.len
  obtain ⟨x, hx⟩ : ∃ x, x = g L k := ⟨_, rfl⟩
  have RG := Lib.hid (h.own.range (k := k) (by omega))
  rw [← hx] at RG
  have c11 := h.cell hC
  have f11 := frozen_of_row w S 11 _ _ h.blk
  have k1 : ((k : Int) + 1) - 1 = (k : Int) := by omega
  have k2 : (k : Int) < ((k + 1 : Nat) : Int) := by omega
  obtain rfl : n = k + 1 := by omega
  have k9 : (k : Int) ≤ 1000000 := by omega
  have kc : k + 1 ≤ c := by
    rcases h.own.2 with ⟨e1, e⟩ | ⟨b', c', cur, e, hb, hc, hn, hm, hs, ht⟩
    · omega
    · injection e with e1 e2 e3; omega
  have cm : c ≤ maxLen := by
    rcases h.own.2 with ⟨e1, e⟩ | ⟨b', c', cur, e, hb, hc, hn, hm, hs, ht⟩
    · omega
    · injection e with e1 e2 e3; omega
  unfold maxLen at cm
  have H := Lib.hid h
  have hkk := Lib.hid hk
  replace hx := Lib.hid hx
  clear h hk hnl
  go_enter Tryz.func134, Tryz.ntmps134
  go_upto_region 3 with (first | ((with_reducible refine Mid.ldm 64 (.tmp 14) b (k * 8) (row8 x) RG.out ?_ ?_ ?_ ?_ ?_ ?_); (· rfl); (· rfl); (· first | rfl | simp [Act.eval]); (· exact ⟨_, rfl, rfl⟩); (· kernel_rfl)) | ((with_reducible refine Mid.str 64 (.tmp 4) (.tmp 15) w.heap.size 64 #[.int .i64 0, .int .i64 0, .int .i64 0, .int .i64 0, .int .i64 0, .int .i64 0, .int .i64 0, .int .i64 0] (row8 x).toArray (heap_alloc_new w _) ?_ ?_ ?_ ?_ ?_ ?_ ?_ ?_); (· rfl); (· rfl); (· first | rfl | simp [Act.eval]); (· first | rfl | simp [Act.eval]); (· kernel_rfl); (· rfl); (· exact row8_all _)))
  try simp only [Act.put]
  obtain ⟨wS, hwS⟩ : ∃ z, z = (w.alloc (.cells #[.int .i64 0, .int .i64 0, .int .i64 0, .int .i64 0, .int .i64 0, .int .i64 0, .int .i64 0, .int .i64 0] 64)).setRow w.heap.size (row8 x).toArray := ⟨_, rfl⟩
  rw [← hwS]
  have N1 : Below w.heap.size w wS := by rw [hwS]; exact Mid.below_row (Mis.new_block _) _ _ (Nat.le_refl _)
  have K4 := Lib.hid (show wS.heap[w.heap.size]? = some (.cells (row8 x).toArray 64 (0, 0)) by rw [hwS]; exact setRow_heap _ _ _ _ _ _ (heap_alloc_new w _))
  obtain ⟨p4, hp4⟩ : ∃ z, z = w.heap.size := ⟨_, rfl⟩
  rw [← hp4] at K4 ⊢
  have HS := Lib.hid (H.out.below N1)
  have FR := Lib.hid ((Fr.below N1).trans (Fr.cell HS.out.blk 11 (.slice (some ⟨b, 0, none⟩) k c)))
  have hpS : p4 ≠ S := by have := (Array.getElem?_eq_some_iff.1 H.out.blk).1; omega
  clear hwS hp4 c11 f11 N1
  have c11 := HS.out.cell hC
  have f11 := frozen_of_row wS S 11 _ _ HS.out.blk
  have k3 : (k : Int) ≤ (c : Int) := by omega
  have k4 : k ≤ c := by omega
  go_upto_region 4 with fail
  have Q4 : QM A S C (wS.setCell ⟨S, 11, none⟩ (.slice (some ⟨b, 0, none⟩) k c)) (.slice (some ⟨b, 0, none⟩) k c) (L.take k) := by
    refine ⟨HS.out.bel.setCell HS.out.ge _, HS.out.ge, ?_, (HS.out.own.less (by rw [hkk.out]; omega)).same fun q hq => Below.heap_setCell wS _ _ q (fun e => ?_)⟩
    · rw [heap_setCell_same wS S 11 _ _ _ HS.out.blk, (hC _).2]
    · exact HS.out.own.ne_b HS.out.blk ((Option.some.inj (show some b = some q from hq)).trans e)
  replace Q4 := Lib.hid Q4
  have K5 := Lib.hid ((Below.heap_setCell wS ⟨S, 11, none⟩ (.slice (some ⟨b, 0, none⟩) k c) p4 hpS).trans K4.out)
  obtain ⟨wT, hwT⟩ : ∃ z, z = wS.setCell ⟨S, 11, none⟩ (.slice (some ⟨b, 0, none⟩) k c) := ⟨_, rfl⟩
  rw [← hwT] at Q4 K5 FR ⊢
  clear hwT c11 f11
  go_wp2_with (((with_reducible refine Mid.ldr 64 (.tmp 4) p4 64 (row8 x).toArray K5.out ?_ ?_ ?_ ?_ ?_ ?_); (· rfl); (· rfl); (· first | rfl | simp [Act.eval]); (· exact ⟨_, rfl, rfl⟩); (· kernel_rfl)))
  go_ret
  exact ⟨⟨_, rfl⟩, Q4.out, FR.out⟩
set_option maxHeartbeats 8000000 in
set_option maxRecDepth 100000 in
theorem hpop_any {A w : World} {S : Nat} {C : Value → Array Value} (hC : At11 C) {v : Value} {L : List OB} (h : QM A S C w v L) (hn : L.length ≤ 900000) (h0 : 0 < L.length) :
    Calls Tryz.prog 59 #[.iface 108 (.pointer (some ⟨S, 11, none⟩))] w fun e w' => (∃ r, e = .returned r) ∧ ∃ v', QM A S C w' v' (pop L) ∧ Fr w w' := by
  obtain ⟨ad, n, c, rfl, _⟩ := Mis.own_letter h.own
  obtain ⟨b, rfl, hl, _, _⟩ := h.own.addr h0
  obtain ⟨k, hk⟩ : ∃ k, L.length = k + 1 := ⟨L.length - 1, by omega⟩
  obtain rfl : n = k + 1 := by omega
  have M1 := m_len (h.cell hC)
  have M2 := m_swap (h.cell hC)
  have SW := swap_any h.own (by omega) h0 (show k < L.length by omega)
  rw [show ((0 : Nat) : Int) = 0 from rfl] at SW
  have H := Lib.hid h
  have hp : popd L = down L.length (sw L 0 k) 0 k := by unfold popd; rw [hk]; rfl
  have hpp : pop L = (down L.length (sw L 0 k) 0 k).take k := by unfold pop; rw [hp, hk]; rfl
  rw [hpp]
  have k1 : ((k : Int) + 1) - 1 = (k : Int) := by omega
  have k9 : (k : Int) ≤ 900000 := by omega
  replace hl := Lib.hid hl
  replace hk := Lib.hid hk
  replace SW := Lib.hid SW
  clear hp hpp h
  go_enter Tryz.func59, Tryz.ntmps59
  go_wp2_with (go_at_call 131; refine (len_any _ _ _ _).mono ?_; rintro e w3 ⟨rfl, hw⟩; replace hw := hw.symm; subst hw)
  refine SW.out.mono ?_
  rintro e w2 ⟨rfl, ho, hg⟩
  have H2 := Lib.hid (H.out.grown ho hg)
  have fr2 := Lib.hid (Fr.grown H.out.own hg)
  clear ho hg M1 M2
  have D := (down_any hC H2.out (by rw [sw_len]; omega) L.length 0 k (Nat.zero_le _) (by rw [sw_len, hk.out]; omega) (by rw [hk.out]; omega))
  rw [show ((0 : Nat) : Int) = 0 from rfl] at D
  replace D := Lib.hid D
  go_wp2_with fail
  refine D.out.mono ?_
  rintro e w4 ⟨⟨r, rfl⟩, h4, fr4⟩
  replace fr4 := Lib.hid fr4
  have h4l : (down L.length (sw L 0 k) 0 k).length = k + 1 := by rw [down_len, sw_len, hk.out]
  have P := Lib.hid (qpop_any hC h4 (by rw [h4l, ← hk.out]; omega) k h4l)
  clear h4l
  go_wp2_with fail
  refine P.out.mono ?_
  rintro e w5 ⟨⟨r5, rfl⟩, h5, fr5⟩
  replace fr5 := Lib.hid fr5
  go_wp2_with fail
  go_ret
  exact ⟨⟨_, rfl⟩, _, h5, fr2.out.trans (fr4.out.trans fr5.out)⟩
end Loc
end Go.Proofs.YtldgihlhioeipaaGreat
