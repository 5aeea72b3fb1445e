/- What follows later, and what leads: the mathematics of DetectorPrefix. -/
import Derived.Test.YtbmcmiggifknfaaDoorDetT
set_option linter.unusedVariables false
set_option linter.unusedSimpArgs false
namespace Go.Proofs.YtbmcmiggifknfaaDoor
namespace Det
/-- The triggers of a beginning. -/
theorem pre_rel (d : Dt) (V : Nat → Int) (hL : 1 ≤ d.L) (hV : ∀ j, 0 ≤ V j) (n k : Nat) (hk : k ≤ n) :
    (runL d V k).length ≤ (runL d V n).length ∧ ∀ (i : Nat) (t : Tr), (runL d V k)[i]? = some t → ∃ u, (runL d V n)[i]? = some u ∧ t.on = u.on ∧ (0 ≤ t.off → t = u) ∧ (t.off < 0 → i + 1 = (runL d V k).length ∧ t.pk ≤ u.pk) := by
  obtain ⟨rest, h1, h2⟩ := aft_any d V hL hV n (n - k) k (by omega)
  obtain ⟨e1, e2, e3, e4⟩ := trs_any d V hL hV k
  rw [h1]
  unfold runL
  generalize (scn d V k).1 = e at *
  generalize (scn d V k).2 = o at *
  have old : ∀ (i : Nat) (t : Tr), i < e.length → e[i]? = some t → ∃ u, (e ++ rest)[i]? = some u ∧ t.on = u.on ∧ (0 ≤ t.off → t = u) ∧ (t.off < 0 → False) := fun i t hi ht =>
    ⟨t, by rw [List.getElem?_append_left hi]; exact ht, rfl, fun _ => rfl, fun h => by have := e1 i t ht; omega⟩
  by_cases ho : o.on < 0
  · rw [if_pos ho, List.append_nil]
    refine ⟨by simp, fun i t ht => ?_⟩
    have hi : i < e.length := (List.getElem?_eq_some_iff.1 ht).1
    obtain ⟨u, a, b, c, d'⟩ := old i t hi ht
    exact ⟨u, a, b, c, fun h => (d' h).elim⟩
  · rw [if_neg ho]
    obtain ⟨t', r, rfl, ha, hb, hc⟩ := h2 (by omega)
    obtain ⟨_, _, e43, _⟩ := e4 (by omega)
    refine ⟨by simp, fun i t ht => ?_⟩
    by_cases hi : i < e.length
    · rw [List.getElem?_append_left hi] at ht
      obtain ⟨u, a, b, c, d'⟩ := old i t hi ht
      exact ⟨u, a, b, c, fun h => (d' h).elim⟩
    · have hz : i = e.length := by
        have := (List.getElem?_eq_some_iff.1 ht).1
        simp at this
        omega
      subst hz
      simp at ht
      subst ht
      exact ⟨t', by simp, ha.symm, fun h => by omega, fun _ => ⟨by simp, hb⟩⟩
/-- Values behind D others. -/
theorem psum_lead {V V' : Nat → Int} {D : Nat} (h : ∀ j, V' (D + j) = V j) : ∀ c, psum V' (D + c) = psum V' D + psum V c := by
  intro c
  induction c with
  | zero => simp [psum]
  | succ c ih =>
    show psum V' (D + c) + V' (D + c) = psum V' D + (psum V c + V c)
    rw [ih, h]; omega
theorem win_lead {V V' : Nat → Int} {D : Nat} (h : ∀ j, V' (D + j) = V j) (S i : Nat) (hS : S ≤ i + 1) : win V' S (D + i) = win V S i := by
  unfold win
  rw [show D + i + 1 = D + (i + 1) by omega, show D + (i + 1) - S = D + (i + 1 - S) by omega, psum_lead h, psum_lead h]
  omega
def shT (D : Nat) (t : Tr) : Tr := ⟨t.on + D, t.off + D, t.pk⟩
def shO (D : Nat) (o : Tr) : Tr := if o.on < 0 then o else ⟨o.on + D, o.off, o.pk⟩
theorem step_lead (d : Dt) {V V' : Nat → Int} {D : Nat} (h : ∀ j, V' (D + j) = V j) (i : Nat) (hi : d.L ≤ i + 1) (hS : d.S ≤ d.L) (e1 e : List Tr) (o : Tr) :
    step d V' (D + i) (e1 ++ e.map (shT D)) (shO D o) = (e1 ++ (step d V i e o).1.map (shT D), shO D (step d V i e o).2) := by
  unfold step
  have hA : ¬ D + i + 1 < d.L := by omega
  have hB : ¬ i + 1 < d.L := by omega
  rw [if_neg hA, if_neg hB, win_lead h d.S i (by omega), win_lead h d.L i (by omega)]
  by_cases ho : o.on < 0
  · have e2 : shO D o = o := by unfold shO; rw [if_pos ho]
    rw [e2, if_pos ho, if_pos ho]
    split
    · refine Prod.ext rfl ?_
      show (⟨((D + i : Nat) : Int), -1, V' (D + i)⟩ : Tr) = shO D ⟨i, -1, V i⟩
      unfold shO
      rw [if_neg (by simp only; omega), h]
      simp only [Tr.mk.injEq, and_true, true_and]
      push_cast; omega
    · exact Prod.ext rfl e2.symm
  · have e2 : shO D o = ⟨o.on + D, o.off, o.pk⟩ := by unfold shO; rw [if_neg ho]
    rw [e2, if_neg (show ¬ o.on + (D : Int) < 0 by omega), if_neg ho]
    split
    · refine Prod.ext rfl ?_
      show (⟨o.on + D, o.off, max o.pk (V' (D + i))⟩ : Tr) = shO D ⟨o.on, o.off, max o.pk (V i)⟩
      unfold shO
      rw [if_neg (show ¬ o.on < 0 from ho), h]
    · refine Prod.ext ?_ rfl
      show (e1 ++ e.map (shT D)) ++ [(⟨o.on + D, ((D + i : Nat) : Int), o.pk⟩ : Tr)] = e1 ++ (e ++ [(⟨o.on, (i : Int), o.pk⟩ : Tr)]).map (shT D)
      rw [List.map_append, List.append_assoc]
      congr 2
      simp only [List.map_cons, List.map_nil, shT, List.cons.injEq, Tr.mk.injEq, and_true, true_and]
      push_cast; omega
theorem rch_anti (S L : Nat) (sh lo p q : Int) (hpq : q ≤ p) (hlo : 0 ≤ lo) (h : rch S L sh lo p = true) : rch S L sh lo q = true := by
  unfold rch at *
  simp only [Bool.and_eq_true, decide_eq_true_eq] at *
  refine ⟨h.1, ?_⟩
  have h1 : q * (S : Int) ≤ p * (S : Int) := Int.mul_le_mul_of_nonneg_right hpq (by omega)
  have h2 : q * (S : Int) * lo ≤ p * (S : Int) * lo := Int.mul_le_mul_of_nonneg_right h1 hlo
  have := h.2
  omega
/-- No trigger of the list is open at the index. -/
def Cls (l : List Tr) (thr : Int) : Prop :=
  ∀ t ∈ l, t.on < thr → 0 ≤ t.off ∧ t.off ≤ thr
theorem win_pos {V : Nat → Int} (hV : ∀ j, 0 ≤ V j) (S i : Nat) : 0 ≤ win V S i := by
  unfold win
  have : ∀ a c, psum V a ≤ psum V (a + c) := by
    intro a c
    induction c with
    | zero => exact Int.le_refl _
    | succ c ih => show psum V a ≤ psum V (a + c) + V (a + c); have := hV (a + c); omega
  have := this (i + 1 - S) (i + 1 - (i + 1 - S))
  rw [show i + 1 - S + (i + 1 - (i + 1 - S)) = i + 1 by omega] at this
  omega
theorem lead_first (d : Dt) {V V' : Nat → Int} {D l1 n : Nat} (h : ∀ j, V' (D + j) = V j) (hV' : ∀ j, 0 ≤ V' j) (hL : d.L = l1 + 1) (hS : d.S ≤ d.L) (hfo : d.off ≤ d.on) (hn : D + l1 + 1 ≤ n) (hc : Cls (runL d V' n) ((D + l1 : Nat) : Int)) :
    ∃ e1, (∀ t ∈ e1, t.on < ((D + l1 : Nat) : Int)) ∧ (scn d V (l1 + 1)).1 = [] ∧ scn d V' (D + l1 + 1) = (e1, shO D (scn d V (l1 + 1)).2) := by
  have hs : scn d V (l1 + 1) = step d V l1 [] ⟨-1, 0, 0⟩ := by
    show step d V l1 (scn d V l1).1 (scn d V l1).2 = _
    rw [flat_short d V l1 (by omega)]
  have hT := trs_any d V' (by omega) hV' (D + l1)
  have hA := aft_any d V' (by omega) hV' n (n - (D + l1 + 1)) (D + l1 + 1) (by omega)
  have hs' : scn d V' (D + l1 + 1) = step d V' (D + l1) (scn d V' (D + l1)).1 (scn d V' (D + l1)).2 := rfl
  rw [hs'] at hA ⊢
  generalize (scn d V' (D + l1)).1 = e0 at *
  generalize (scn d V' (D + l1)).2 = o0 at *
  obtain ⟨t1, t2, t3, t4⟩ := hT
  have hon : ∀ t ∈ e0, t.on < ((D + l1 : Nat) : Int) := fun t ht => by
    obtain ⟨i, hi, rfl⟩ := List.mem_iff_getElem.1 ht
    have := t1 i e0[i] (by simp)
    omega
  have hnil : (scn d V (l1 + 1)).1 = [] := by
    rw [hs]; unfold step
    rw [if_neg (by omega), if_pos (by decide)]
    split <;> rfl
  refine ?_
  by_cases ho : o0.on < 0
  · obtain rfl := t3 ho
    have q := step_lead d h l1 (by omega) hS e0 [] ⟨-1, 0, 0⟩
    have q2 : shO D ⟨-1, 0, 0⟩ = ⟨-1, 0, 0⟩ := by unfold shO; rw [if_pos (by decide)]
    rw [q2, List.map_nil, List.append_nil, ← hs, hnil, List.map_nil, List.append_nil] at q
    exact ⟨e0, hon, hnil, q⟩
  · obtain ⟨p1, p2, p3, _, _⟩ := t4 (by omega)
    by_cases hr : rch d.S d.L (win V' d.S (D + l1)) (win V' d.L (D + l1)) d.off = true
    · exfalso
      have q : step d V' (D + l1) e0 o0 = (e0, ⟨o0.on, o0.off, max o0.pk (V' (D + l1))⟩) := by
        unfold step; rw [if_neg (by omega), if_neg ho, if_pos hr]
      rw [q] at hA
      obtain ⟨rest, r1, r2⟩ := hA
      obtain ⟨t, r, rfl, s1, _, s3⟩ := r2 (show 0 ≤ o0.on by omega)
      have := hc t (by rw [r1]; simp) (by rw [s1]; exact p2)
      simp only at s1
      omega
    · have q : step d V' (D + l1) e0 o0 = (e0 ++ [⟨o0.on, ((D + l1 : Nat) : Int), o0.pk⟩], ⟨-1, 0, 0⟩) := by
        unfold step; rw [if_neg (by omega), if_neg ho, if_neg hr]
      have hr2 : rch d.S d.L (win V d.S l1) (win V d.L l1) d.on = false := by
        rw [← win_lead h d.S l1 (by omega), ← win_lead h d.L l1 (by omega)]
        cases hb : rch d.S d.L (win V' d.S (D + l1)) (win V' d.L (D + l1)) d.on with
        | false => rfl
        | true => exact absurd (rch_anti _ _ _ _ _ _ hfo (win_pos hV' _ _) hb) hr
      have q3 : scn d V (l1 + 1) = ([], ⟨-1, 0, 0⟩) := by
        rw [hs]; unfold step; rw [if_neg (by omega), if_pos (by decide), hr2]; rfl
      refine ⟨e0 ++ [⟨o0.on, ((D + l1 : Nat) : Int), o0.pk⟩], fun t ht => ?_, hnil, ?_⟩
      · rcases List.mem_append.1 ht with ht | ht
        · exact hon t ht
        · obtain rfl := List.mem_singleton.1 ht; exact p2
      · rw [q, q3]
        refine Prod.ext rfl ?_
        show _ = shO D ⟨-1, 0, 0⟩
        unfold shO; rw [if_pos (by decide)]
theorem lead_all (d : Dt) {V V' : Nat → Int} {D l1 n : Nat} (h : ∀ j, V' (D + j) = V j) (hV' : ∀ j, 0 ≤ V' j) (hL : d.L = l1 + 1) (hS : d.S ≤ d.L) (hfo : d.off ≤ d.on) (hn : D + l1 + 1 ≤ n) (hc : Cls (runL d V' n) ((D + l1 : Nat) : Int)) :
    ∃ e1, (∀ t ∈ e1, t.on < ((D + l1 : Nat) : Int)) ∧ ∀ j, scn d V' (D + (l1 + 1 + j)) = (e1 ++ (scn d V (l1 + 1 + j)).1.map (shT D), shO D (scn d V (l1 + 1 + j)).2) := by
  obtain ⟨e1, h1, h2, h3⟩ := lead_first d h hV' hL hS hfo hn hc
  refine ⟨e1, h1, fun j => ?_⟩
  induction j with
  | zero => rw [Nat.add_zero, h2, List.map_nil, List.append_nil]; exact h3
  | succ j ih =>
    show step d V' (D + (l1 + 1 + j)) (scn d V' (D + (l1 + 1 + j))).1 (scn d V' (D + (l1 + 1 + j))).2 = _
    rw [ih]
    exact step_lead d h (l1 + 1 + j) (by omega) hS e1 _ _
/-- What the law's closure makes. -/
def lateL (D : Int) (l : List Tr) : List Tr := (l.filter fun y => decide (D ≤ y.on)).map fun y => ⟨y.on - D, if 0 ≤ y.off then y.off - D else y.off, y.pk⟩
/-- What the law picks of it. -/
def selL (l1 : Int) (l : List Tr) : List Tr := l.filter fun y => decide (l1 ≤ y.on)
theorem lateL_append (D : Int) (a b : List Tr) : lateL D (a ++ b) = lateL D a ++ lateL D b := by simp [lateL]
theorem selL_append (D : Int) (a b : List Tr) : selL D (a ++ b) = selL D a ++ selL D b := by simp [selL]
theorem sel_none (D l1 : Nat) : ∀ e1 : List Tr, (∀ t ∈ e1, t.on < ((D + l1 : Nat) : Int)) → selL l1 (lateL D e1) = [] := by
  intro e1 h
  unfold selL lateL
  rw [List.filter_eq_nil_iff]
  intro y hy
  obtain ⟨t, ht, rfl⟩ := List.mem_map.1 hy
  have := h t (List.mem_filter.1 ht).1
  simp only [decide_eq_true_eq]
  push_cast at this
  omega
theorem sel_one (D l1 : Nat) (t u : Tr) (h1 : (l1 : Int) ≤ t.on) (hu : u = ⟨t.on + D, if 0 ≤ t.off then t.off + D else t.off, t.pk⟩) : selL l1 (lateL D [u]) = [t] := by
  subst hu
  unfold selL lateL
  rw [List.filter_cons_of_pos (by simp only [decide_eq_true_eq]; omega)]
  simp only [List.filter_nil, List.map_cons, List.map_nil]
  rw [List.filter_cons_of_pos (by simp only [decide_eq_true_eq]; omega)]
  simp only [List.filter_nil, List.cons.injEq, and_true]
  obtain ⟨a, b, c⟩ := t
  simp only [Tr.mk.injEq, and_true]
  simp only at h1
  refine ⟨by omega, ?_⟩
  by_cases hb : 0 ≤ b
  · rw [if_pos hb, if_pos (by omega)]; omega
  · rw [if_neg hb, if_neg hb]
theorem sel_map (D l1 : Nat) : ∀ e : List Tr, (∀ t ∈ e, (l1 : Int) ≤ t.on ∧ 0 ≤ t.off) → selL l1 (lateL D (e.map (shT D))) = e := by
  intro e
  induction e with
  | nil => intro _; rfl
  | cons t e ih =>
    intro h
    rw [List.map_cons, show shT D t :: e.map (shT D) = [shT D t] ++ e.map (shT D) from rfl, lateL_append, selL_append, ih (fun t ht => h t (by simp [ht]))]
    obtain ⟨a, b⟩ := h t (by simp)
    rw [sel_one D l1 t (shT D t) a (by unfold shT; rw [if_pos b])]
    rfl
/-- Leading samples shift the triggers. -/
theorem lead_sel (d : Dt) {V V' : Nat → Int} {D l1 N : Nat} (h : ∀ j, V' (D + j) = V j) (hV' : ∀ j, 0 ≤ V' j) (hL : d.L = l1 + 1) (hS : d.S ≤ d.L) (hfo : d.off ≤ d.on) (hn : d.L ≤ N) (hc : Cls (runL d V' (D + N)) ((D + l1 : Nat) : Int)) :
    selL l1 (lateL D (runL d V' (D + N))) = runL d V N := by
  obtain ⟨e1, h1, h2⟩ := lead_all d h hV' hL hS hfo (n := D + N) (by omega) hc
  have h3 := h2 (N - (l1 + 1))
  rw [show l1 + 1 + (N - (l1 + 1)) = N by omega] at h3
  have hV : ∀ j, 0 ≤ V j := fun j => by rw [← h]; exact hV' _
  obtain ⟨t1, t2, t3, t4⟩ := trs_any d V (by omega) hV N
  unfold runL
  rw [h3]
  generalize (scn d V N).1 = e at *
  generalize (scn d V N).2 = o at *
  simp only
  rw [List.append_assoc, lateL_append, selL_append, sel_none D l1 e1 h1, List.nil_append, lateL_append, selL_append, sel_map D l1 e (fun t ht => by
    obtain ⟨i, hi, rfl⟩ := List.mem_iff_getElem.1 ht
    have := t1 i e[i] (by simp)
    omega)]
  congr 1
  by_cases ho : o.on < 0
  · have : shO D o = o := by unfold shO; rw [if_pos ho]
    rw [this, if_pos ho]; rfl
  · have : shO D o = ⟨o.on + D, o.off, o.pk⟩ := by unfold shO; rw [if_neg ho]
    obtain ⟨p1, p2, p3, _, _⟩ := t4 (by omega)
    rw [this, if_neg (show ¬ o.on + (D : Int) < 0 by omega), if_neg ho]
    exact sel_one D l1 o _ (by omega) (by rw [if_neg (show ¬ 0 ≤ o.off by omega)])
end Det
end Go.Proofs.YtbmcmiggifknfaaDoor
