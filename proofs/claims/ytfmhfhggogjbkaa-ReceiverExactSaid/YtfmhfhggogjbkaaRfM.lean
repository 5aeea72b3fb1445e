/- The reference's Minus and Meet at sets that are canonical: what their loops hold. -/
import Derived.Test.YtfmhfhggogjbkaaSpnM
set_option linter.unusedVariables false
namespace Go.Proofs.Ytfmhfhggogjbkaa
namespace Spn
theorem no_of {B : LP} {x : Int} (h : ∀ (j : Nat) (r : Int × Int), B[j]? = some r → ¬ (r.1 ≤ x ∧ x < r.2)) : hasB B x = false := by
  cases hb : hasB B x with
  | false => rfl
  | true =>
    obtain ⟨j, r, hj, h1, h2⟩ := has_at.1 hb
    exact absurd ⟨h1, h2⟩ (h j r hj)
theorem yes_of {B : LP} {x : Int} {j : Nat} {r : Int × Int} (h : B[j]? = some r) (h1 : r.1 ≤ x) (h2 : x < r.2) : hasB B x = true := has_at.2 ⟨j, r, h, h1, h2⟩
/-- Minus ahead of the element i. -/
structure Ri (A B : LP) (i : Nat) (N : LP) : Prop where
  is : Is N (fun x => hasB (A.take i) x && !hasB B x)
  last : ∀ p ∈ N, ∀ q, A[i]? = some q → p.2 < q.1
/-- Minus within the element i = (lo, t), ahead of B's element k; all from lo up to f is done. -/
structure Rk (A B : LP) (i k : Nat) (lo t f : Int) (N : LP) : Prop where
  is : Is N (fun x => (hasB (A.take i) x || decide (lo ≤ x ∧ x < f)) && !hasB B x)
  le : lo ≤ f
  last : ∀ p ∈ N, p.2 < f
  seen : ∀ (j : Nat) (r : Int × Int), j < k → B[j]? = some r → r.2 ≤ f ∨ t ≤ r.1
  over : ∀ x, t ≤ x → x < f → hasB B x = true
theorem Ri.start (A B : LP) : Ri A B 0 [] := ⟨Is.nil (by simp [hasB]), fun p hp => by cases hp⟩
theorem Rk.start {A B N : LP} {i : Nat} {lo t : Int} (h : Ri A B i N) (hp : A[i]? = some (lo, t)) (hlt : lo < t) : Rk A B i 0 lo t lo N :=
  ⟨h.is.congr fun x => by rw [decide_eq_false (by omega)]; simp, Int.le_refl _, fun p hp' => h.last p hp' _ hp, fun j r hj => absurd hj (Nat.not_lt_zero j), fun x h1 h2 => by omega⟩
theorem Rk.skip {A B N : LP} {i k : Nat} {lo t f : Int} (h : Rk A B i k lo t f N) {q : Int × Int} (hq : B[k]? = some q) (hs : q.2 ≤ f ∨ t ≤ q.1) : Rk A B i (k + 1) lo t f N :=
  ⟨h.is, h.le, h.last, fun j r hj hr => by
    rcases Nat.lt_succ_iff_lt_or_eq.1 hj with hj | rfl
    · exact h.seen j r hj hr
    · rw [hq] at hr; cases hr; exact hs, h.over⟩
theorem Rk.gap_free {A B N : LP} {i k : Nat} {lo t f : Int} (h : Rk A B i k lo t f N) (hB : Canon B) {q : Int × Int} (hq : B[k]? = some q) (h1 : f < q.2) (h2 : q.1 < t) {x : Int} (hx : f ≤ x) (hx2 : x < q.1) : hasB B x = false :=
  no_of fun j r hr hc => by
    rcases Nat.lt_trichotomy j k with hj | rfl | hj
    · have := h.seen j r hj hr; omega
    · rw [hq] at hr; cases hr; omega
    · have := hB.get hj hq hr; have := hB.at hq; omega
theorem Rk.hit {A B N : LP} {i k : Nat} {lo t f : Int} (h : Rk A B i k lo t f N) (hB : Canon B) {q : Int × Int} (hq : B[k]? = some q) (h1 : f < q.2) (h2 : q.1 < t) : Rk A B i (k + 1) lo t (max f q.2) (if f < q.1 then N ++ [(f, q.1)] else N) := by
  have hm : max f q.2 = q.2 := by omega
  rw [hm]
  have qq := hB.at hq
  have hin : ∀ x, q.1 ≤ x → x < q.2 → hasB B x = true := fun x a b => yes_of hq a b
  refine ⟨?_, by have := h.le; omega, ?_, fun j r hj hr => ?_, fun x a b => ?_⟩
  · split
    · rename_i hc
      refine ⟨canon_snoc.2 ⟨h.is.canon, hc, h.last⟩, fun x => ?_⟩
      rw [hasB_append, h.is.has, hasB_cons, hasB_nil, Bool.or_false]
      have g := h.gap_free hB hq h1 h2 (x := x)
      have g2 := hin x
      cases hb : hasB B x with
      | true =>
        simp only [Bool.not_true, Bool.and_false, Bool.false_or]
        exact decide_eq_false fun ⟨a, b⟩ => by rw [g a b] at hb; cases hb
      | false =>
        simp only [Bool.not_false, Bool.and_true]
        cases hA : hasB (A.take i) x with
        | true => simp
        | false =>
          simp only [Bool.false_or]
          rw [← Bool.decide_or]
          apply decide_eq_decide.2
          have := h.le
          constructor
          · rintro (⟨a, b⟩ | ⟨a, b⟩) <;> omega
          · rintro ⟨a, b⟩
            by_cases c : x < f
            · exact .inl ⟨a, c⟩
            · refine .inr ⟨by omega, ?_⟩
              by_cases d : x < q.1
              · exact d
              · rw [g2 (by omega) b] at hb; cases hb
    · rename_i hc
      refine h.is.congr fun x => ?_
      have g2 := hin x
      cases hb : hasB B x with
      | true => simp
      | false =>
        simp only [Bool.not_false, Bool.and_true]
        congr 1
        apply decide_eq_decide.2
        constructor
        · rintro ⟨a, b⟩; omega
        · rintro ⟨a, b⟩
          refine ⟨a, ?_⟩
          by_cases c : x < f
          · exact c
          · rw [g2 (by omega) b] at hb; cases hb
  · intro p hp
    split at hp
    · rcases List.mem_append.1 hp with hp | hp
      · have := h.last p hp; omega
      · obtain rfl := List.mem_singleton.1 hp; exact qq
    · have := h.last p hp; omega
  · rcases Nat.lt_succ_iff_lt_or_eq.1 hj with hj | rfl
    · have := h.seen j r hj hr; omega
    · rw [hq] at hr; cases hr; exact .inl (Int.le_refl _)
  · by_cases c : x < f
    · exact h.over x a c
    · exact hin x (by omega) b
theorem Rk.stop {A B N : LP} {i k : Nat} {lo t f : Int} (h : Rk A B i k lo t f N) (hA : Canon A) (hp : A[i]? = some (lo, t)) (hk : B.length ≤ k) : Ri A B (i + 1) (if f < t then N ++ [(f, t)] else N) := by
  have seen : ∀ (j : Nat) (r : Int × Int), B[j]? = some r → r.2 ≤ f ∨ t ≤ r.1 := fun j r hr => h.seen j r (by have := (List.getElem?_eq_some_iff.1 hr).1; omega) hr
  have hlt := hA.at hp
  simp only at hlt
  have nx : ∀ q, A[i + 1]? = some q → t < q.1 := fun q hq => hA.get (Nat.lt_succ_self i) hp hq
  refine ⟨?_, ?_⟩
  · split
    · rename_i hc
      refine ⟨canon_snoc.2 ⟨h.is.canon, hc, h.last⟩, fun x => ?_⟩
      rw [hasB_append, h.is.has, hasB_cons, hasB_nil, Bool.or_false, take_succ_has A i _ hp]
      cases hb : hasB B x with
      | true =>
        simp only [Bool.not_true, Bool.and_false, Bool.false_or]
        refine decide_eq_false fun ⟨a, b⟩ => ?_
        obtain ⟨j, r, hr, r1, r2⟩ := has_at.1 hb
        have := seen j r hr
        omega
      | false =>
        simp only [Bool.not_false, Bool.and_true]
        cases hasB (A.take i) x with
        | true => simp
        | false =>
          simp only [Bool.false_or]
          rw [← Bool.decide_or]
          apply decide_eq_decide.2
          have := h.le
          constructor
          · rintro (⟨a, b⟩ | ⟨a, b⟩) <;> omega
          · rintro ⟨a, b⟩
            by_cases c : x < f
            · exact .inl ⟨a, c⟩
            · exact .inr ⟨by omega, b⟩
    · rename_i hc
      refine h.is.congr fun x => ?_
      rw [take_succ_has A i _ hp]
      cases hb : hasB B x with
      | true => simp
      | false =>
        simp only [Bool.not_false, Bool.and_true]
        congr 1
        apply decide_eq_decide.2
        constructor
        · rintro ⟨a, b⟩
          refine ⟨a, ?_⟩
          by_cases c : x < t
          · exact c
          · rw [h.over x (by omega) b] at hb; cases hb
        · rintro ⟨a, b⟩; exact ⟨a, by omega⟩
  · intro p hp' q hq
    have := nx q hq
    split at hp'
    · rcases List.mem_append.1 hp' with hp' | hp'
      · have := h.last p hp'; omega
      · obtain rfl := List.mem_singleton.1 hp'; exact this
    · rename_i hc
      -- what lies in the list lies in A
      by_cases c : p.2 ≤ t
      · omega
      · have p1 := h.is.canon.one p hp'
        have hb : hasB N (p.2 - 1) = true := hasB_iff.2 ⟨p, hp', by omega, by omega⟩
        rw [h.is.has] at hb
        simp only [Bool.and_eq_true, Bool.not_eq_true'] at hb
        have := h.over (p.2 - 1) (by omega) (by have := h.last p hp'; omega)
        rw [this] at hb
        cases hb.2
/-- Meet ahead of the elements i and k. -/
structure Re (A B : LP) (i k : Nat) (N : LP) : Prop where
  is : Is N (fun x => (hasB (A.take i) x && hasB B x) || ((A[i]?).any (fun p => decide (p.1 ≤ x ∧ x < p.2)) && hasB (B.take k) x))
  last : ∀ p ∈ N, (∀ q, A[i]? = some q → p.2 < q.1) ∨ (∀ q, B[k]? = some q → p.2 < q.1)
theorem Re.start (A B : LP) : Re A B 0 0 [] := ⟨Is.nil (by simp [hasB]), fun p hp => by cases hp⟩
theorem Re.next {A B N : LP} {i k : Nat} (h : Re A B i k N) (hA : Canon A) (hB : Canon B) {p q : Int × Int} (hp : A[i]? = some p) (hq : B[k]? = some q) :
    Re A B i (k + 1) (if max p.1 q.1 < min p.2 q.2 then N ++ [(max p.1 q.1, min p.2 q.2)] else N) := by
  have pp := hA.at hp
  have qq := hB.at hq
  have nx : ∀ r, B[k + 1]? = some r → q.2 < r.1 := fun r hr => hB.get (Nat.lt_succ_self k) hq hr
  have hs : ∀ x, hasB (B.take (k + 1)) x = (hasB (B.take k) x || decide (q.1 ≤ x ∧ x < q.2)) := fun x => take_succ_has B k _ hq x
  have ha : ∀ x, (A[i]?).any (fun p => decide (p.1 ≤ x ∧ x < p.2)) = decide (p.1 ≤ x ∧ x < p.2) := fun x => by rw [hp]; rfl
  refine ⟨?_, ?_⟩
  · split
    · rename_i hc
      refine ⟨canon_snoc.2 ⟨h.is.canon, hc, fun r hr => ?_⟩, fun x => ?_⟩
      · rcases h.last r hr with h1 | h1
        · have := h1 p hp; simp only; omega
        · have := h1 q hq; simp only; omega
      · rw [hasB_append, h.is.has, hasB_cons, hasB_nil, Bool.or_false, hs, ha, Bool.and_or_distrib_left, Bool.or_assoc]
        congr 2
        rw [← Bool.decide_and]
        apply decide_eq_decide.2
        simp only
        omega
    · rename_i hc
      refine h.is.congr fun x => ?_
      rw [hs, ha, Bool.and_or_distrib_left, ← Bool.decide_and]
      rw [show decide ((p.1 ≤ x ∧ x < p.2) ∧ (q.1 ≤ x ∧ x < q.2)) = false from decide_eq_false (by omega), Bool.or_false]
  · intro r hr
    split at hr
    · rcases List.mem_append.1 hr with hr | hr
      · rcases h.last r hr with h1 | h1
        · exact .inl h1
        · refine .inr fun s hs' => ?_
          have := h1 q hq; have := nx s hs'; omega
      · obtain rfl := List.mem_singleton.1 hr
        refine .inr fun s hs' => ?_
        have := nx s hs'; simp only; omega
    · rcases h.last r hr with h1 | h1
      · exact .inl h1
      · refine .inr fun s hs' => ?_
        have := h1 q hq; have := nx s hs'; omega
theorem Re.turn {A B N : LP} {i k : Nat} (h : Re A B i k N) (hA : Canon A) {p : Int × Int} (hp : A[i]? = some p) (hk : B.length ≤ k) : Re A B (i + 1) 0 N := by
  have pp := hA.at hp
  have hst : ∀ x, hasB B x = hasB (B.take k) x := fun x => by rw [take_all B k hk]
  refine ⟨h.is.congr fun x => ?_, fun r hr => .inl fun s hs => ?_⟩
  · rw [take_succ_has A i _ hp, hp, ← hst]
    simp only [Option.any_some, List.take_zero, hasB_nil, Bool.and_false, Bool.or_false, Bool.and_or_distrib_right]
  · have hn := hA.get (Nat.lt_succ_self i) hp hs
    -- r lies within A.take (i + 1)
    have r1 := h.is.canon.one r hr
    have hb : hasB N (r.2 - 1) = true := hasB_iff.2 ⟨r, hr, by omega, by omega⟩
    rw [h.is.has, hp] at hb
    simp only [Bool.or_eq_true, Bool.and_eq_true, Option.any_some, decide_eq_true_eq] at hb
    rcases hb with ⟨hb, _⟩ | ⟨hb, _⟩
    · obtain ⟨j, s', hj, hs', a1, a2⟩ := has_take_at.1 hb
      have := hA.get hj hs' hp
      omega
    · omega
theorem Re.stop {A B N : LP} {i : Nat} (h : Re A B i 0 N) (hi : A.length ≤ i) : Is N (fun x => hasB A x && hasB B x) :=
  h.is.congr fun x => by
    rw [take_all A i hi]
    simp [hasB_nil]
end Spn
end Go.Proofs.Ytfmhfhggogjbkaa
