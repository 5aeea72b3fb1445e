/- Sets of spans as lists of pairs: when a list is a set, adding a span, lengths; no program. -/
import Derived.Test.YtfmhfhggogjbkaaMath
set_option linter.unusedVariables false
set_option linter.unusedSimpArgs false
namespace Go.Proofs.Ytfmhfhggogjbkaa
namespace Spn
abbrev LP := List (Int × Int)
def hasB (l : LP) (x : Int) : Bool := l.any fun p => decide (p.1 ≤ x ∧ x < p.2)
theorem hasB_iff {l : LP} {x : Int} : hasB l x = true ↔ ∃ p ∈ l, p.1 ≤ x ∧ x < p.2 := by simp [hasB]
theorem hasB_nil (x : Int) : hasB [] x = false := rfl
theorem hasB_cons (p : Int × Int) (l : LP) (x : Int) : hasB (p :: l) x = (decide (p.1 ≤ x ∧ x < p.2) || hasB l x) := by simp [hasB]
theorem hasB_append (a b : LP) (x : Int) : hasB (a ++ b) x = (hasB a x || hasB b x) := by simp [hasB]
theorem hasB_perm {a b : LP} (h : a.Perm b) (x : Int) : hasB a x = hasB b x := by
  rw [Bool.eq_iff_iff, hasB_iff, hasB_iff]
  exact ⟨fun ⟨p, hp, q⟩ => ⟨p, h.mem_iff.1 hp, q⟩, fun ⟨p, hp, q⟩ => ⟨p, h.mem_iff.2 hp, q⟩⟩
/-- A set: spans that have numbers and lie apart, in order. -/
structure Canon (l : LP) : Prop where
  one : ∀ p ∈ l, p.1 < p.2
  apart : l.Pairwise fun p q => p.2 < q.1
theorem Canon.nil : Canon [] := ⟨by simp, .nil⟩
theorem canon_cons {p : Int × Int} {l : LP} : Canon (p :: l) ↔ p.1 < p.2 ∧ (∀ q ∈ l, p.2 < q.1) ∧ Canon l := by
  constructor
  · rintro ⟨h1, h2⟩
    rw [List.pairwise_cons] at h2
    exact ⟨h1 p (by simp), h2.1, fun q hq => h1 q (by simp [hq]), h2.2⟩
  · rintro ⟨h1, h2, h3, h4⟩
    exact ⟨by simpa using ⟨h1, fun a b hab => h3 (a, b) hab⟩, List.pairwise_cons.2 ⟨h2, h4⟩⟩
theorem canon_snoc {p : Int × Int} {l : LP} : Canon (l ++ [p]) ↔ Canon l ∧ p.1 < p.2 ∧ ∀ q ∈ l, q.2 < p.1 := by
  constructor
  · rintro ⟨h1, h2⟩
    rw [List.pairwise_append] at h2
    exact ⟨⟨fun q hq => h1 q (by simp [hq]), h2.1⟩, h1 p (by simp), fun q hq => h2.2.2 q hq p (by simp)⟩
  · rintro ⟨⟨h3, h4⟩, h1, h2⟩
    refine ⟨fun q hq => ?_, List.pairwise_append.2 ⟨h4, List.pairwise_singleton .., fun q hq r hr => ?_⟩⟩
    · rcases List.mem_append.1 hq with h | h
      · exact h3 q h
      · simp at h; subst h; exact h1
    · simp at hr; subst hr; exact h2 q hq
theorem Canon.get {l : LP} (h : Canon l) {i j : Nat} {p q : Int × Int} (hij : i < j) (hp : l[i]? = some p) (hq : l[j]? = some q) : p.2 < q.1 := by
  obtain ⟨hi, rfl⟩ := List.getElem?_eq_some_iff.1 hp
  obtain ⟨hj, rfl⟩ := List.getElem?_eq_some_iff.1 hq
  exact (List.pairwise_iff_getElem.1 h.apart) i j hi hj hij
theorem Canon.at {l : LP} (h : Canon l) {i : Nat} {p : Int × Int} (hp : l[i]? = some p) : p.1 < p.2 := h.one p (List.mem_of_getElem? hp)
theorem Canon.ext : ∀ {a b : LP}, Canon a → Canon b → (∀ x, hasB a x = hasB b x) → a = b
  | [], [], _, _, _ => rfl
  | [], q :: u, _, hb, h => by
    have := h q.1
    rw [hasB_nil, hasB_cons, decide_eq_true ⟨Int.le_refl _, (canon_cons.1 hb).1⟩] at this
    simp at this
  | p :: t, [], ha, _, h => by
    have := h p.1
    rw [hasB_nil, hasB_cons, decide_eq_true ⟨Int.le_refl _, (canon_cons.1 ha).1⟩] at this
    simp at this
  | p :: t, q :: u, ha, hb, h => by
    obtain ⟨a1, a2, a3⟩ := canon_cons.1 ha
    obtain ⟨b1, b2, b3⟩ := canon_cons.1 hb
    have e1 : p.1 = q.1 := by
      have h1 : hasB (q :: u) p.1 = true := by rw [← h, hasB_iff]; exact ⟨p, by simp, by omega, a1⟩
      have h2 : hasB (p :: t) q.1 = true := by rw [h, hasB_iff]; exact ⟨q, by simp, by omega, b1⟩
      obtain ⟨r, hr, r1, r2⟩ := hasB_iff.1 h1
      obtain ⟨s, hs, s1, s2⟩ := hasB_iff.1 h2
      have : q.1 ≤ r.1 := by
        rcases List.mem_cons.1 hr with rfl | hr
        · omega
        · have := b2 r hr; omega
      have : p.1 ≤ s.1 := by
        rcases List.mem_cons.1 hs with rfl | hs
        · omega
        · have := a2 s hs; omega
      omega
    have far : ∀ {p : Int × Int} {t : LP}, (∀ q ∈ t, p.2 < q.1) → ∀ x, x ≤ p.2 → hasB t x = false := fun {p t} hh x hx => by
      rw [← Bool.not_eq_true, hasB_iff]
      rintro ⟨r, hr, r1, _⟩
      have := hh r hr; omega
    have e2 : p.2 = q.2 := by
      have h1 := h p.2
      have h2 := h q.2
      rw [hasB_cons, hasB_cons] at h1 h2
      rcases Int.lt_trichotomy p.2 q.2 with hl | hl | hl
      · rw [far a2 p.2 (by omega), decide_eq_false (by omega), decide_eq_true (by omega)] at h1
        simp at h1
      · exact hl
      · rw [far b2 q.2 (by omega), decide_eq_true (by omega), decide_eq_false (by omega)] at h2
        simp at h2
    obtain rfl : p = q := Prod.ext e1 e2
    congr 1
    refine Canon.ext a3 b3 fun x => ?_
    by_cases hx : x < p.2
    · rw [far a2 x (by omega), far b2 x (by omega)]
    · have := h x
      rwa [hasB_cons, hasB_cons, decide_eq_false (by omega), Bool.false_or, Bool.false_or] at this
/-- A span behind those of a set that begin no later. -/
def addL (set : LP) (s : Int × Int) : LP :=
  if s.2 ≤ s.1 then set else match set.getLast? with
    | some p => if s.1 ≤ p.2 then set.dropLast ++ [(p.1, max p.2 s.2)] else set ++ [s]
    | none => set ++ [s]
theorem addL_no (set : LP) (s : Int × Int) (h : s.2 ≤ s.1) : addL set s = set := if_pos h
theorem addL_nil (s : Int × Int) (h : s.1 < s.2) : addL [] s = [s] := by rw [addL, if_neg (by omega)]; rfl
theorem addL_join (l : LP) (p s : Int × Int) (h : s.1 < s.2) (h2 : s.1 ≤ p.2) : addL (l ++ [p]) s = l ++ [(p.1, max p.2 s.2)] := by
  rw [addL, if_neg (by omega)]; simp [h2]
theorem addL_new (l : LP) (p s : Int × Int) (h : s.1 < s.2) (h2 : p.2 < s.1) : addL (l ++ [p]) s = l ++ [p] ++ [s] := by
  rw [addL, if_neg (by omega)]; simp; omega
theorem snoc_cases (l : LP) : l = [] ∨ ∃ u p, l = u ++ [p] := by
  rcases List.eq_nil_or_concat l with h | ⟨u, p, h⟩
  · exact .inl h
  · exact .inr ⟨u, p, by simpa using h⟩
def Le (set : LP) (f : Int) : Prop := ∀ p ∈ set, p.1 ≤ f
theorem Le.nil (f : Int) : Le [] f := by simp [Le]
theorem Le.mono {set : LP} {f g : Int} (h : Le set f) (hg : f ≤ g) : Le set g := fun p hp => Int.le_trans (h p hp) hg
theorem addL_spec {set : LP} (h : Canon set) {s : Int × Int} (hl : Le set s.1) :
    Canon (addL set s) ∧ (∀ x, hasB (addL set s) x = (hasB set x || decide (s.1 ≤ x ∧ x < s.2))) ∧ Le (addL set s) s.1 ∧ (addL set s).length ≤ set.length + 1 := by
  by_cases h1 : s.2 ≤ s.1
  · rw [addL_no _ _ h1]
    exact ⟨h, fun x => by rw [decide_eq_false (by omega), Bool.or_false], hl, by omega⟩
  · rcases snoc_cases set with rfl | ⟨l, p, rfl⟩
    · rw [addL_nil s (by omega)]
      refine ⟨canon_cons.2 ⟨by omega, by simp, Canon.nil⟩, fun x => by simp [hasB], ?_, by simp⟩
      intro q hq; simp at hq; subst hq; exact Int.le_refl _
    · obtain ⟨c1, c2, c3⟩ := canon_snoc.1 h
      have hp : p.1 ≤ s.1 := hl p (by simp)
      by_cases h2 : s.1 ≤ p.2
      · rw [addL_join l p s (by omega) h2]
        refine ⟨canon_snoc.2 ⟨c1, by show p.1 < max p.2 s.2; omega, c3⟩, fun x => ?_, ?_, by simp⟩
        · rw [hasB_append, hasB_append, Bool.or_assoc]
          congr 1
          rw [Bool.eq_iff_iff]
          simp [hasB]
          omega
        · intro q hq
          rcases List.mem_append.1 hq with hq | hq
          · exact hl q (by simp [hq])
          · simp at hq; subst hq; exact hp
      · rw [addL_new l p s (by omega) (by omega)]
        refine ⟨canon_snoc.2 ⟨h, by omega, fun q hq => ?_⟩, fun x => by rw [hasB_append]; simp [hasB], ?_, by simp⟩
        · rcases List.mem_append.1 hq with hq | hq
          · have := c3 q hq; omega
          · simp at hq; subst hq; omega
        · intro q hq
          rcases List.mem_append.1 hq with hq | hq
          · exact hl q hq
          · simp at hq; subst hq; exact Int.le_refl _
/-- Folding: a set with the numbers of a list. -/
structure Is (set : LP) (f : Int → Bool) : Prop where
  canon : Canon set
  has : ∀ x, hasB set x = f x
theorem Is.unique {a b : LP} {f : Int → Bool} (h : Is a f) (h' : Is b f) : a = b := h.canon.ext h'.canon fun x => by rw [h.has, h'.has]
theorem Is.self {a : LP} (h : Canon a) : Is a (hasB a) := ⟨h, fun _ => rfl⟩
theorem Is.congr {a : LP} {f g : Int → Bool} (h : Is a f) (e : ∀ x, f x = g x) : Is a g := ⟨h.canon, fun x => by rw [h.has, e]⟩
theorem Is.nil {f : Int → Bool} (e : ∀ x, f x = false) : Is [] f := ⟨Canon.nil, fun x => by rw [e]; rfl⟩
theorem Is.add {set : LP} {f : Int → Bool} (h : Is set f) {s : Int × Int} (hl : Le set s.1) : Is (addL set s) (fun x => f x || decide (s.1 ≤ x ∧ x < s.2)) :=
  ⟨(addL_spec h.canon hl).1, fun x => by rw [(addL_spec h.canon hl).2.1, h.has]⟩
theorem take_succ_has (l : LP) (k : Nat) (p : Int × Int) (hp : l[k]? = some p) (x : Int) : hasB (l.take (k + 1)) x = (hasB (l.take k) x || decide (p.1 ≤ x ∧ x < p.2)) := by
  rw [List.take_add_one, hp, hasB_append]; simp [hasB]
theorem take_all (l : LP) (k : Nat) (h : l.length ≤ k) : l.take k = l := List.take_of_length_le h
theorem has_take_imp {l : LP} {k : Nat} {x : Int} (h : hasB (l.take k) x = true) : hasB l x = true := by
  obtain ⟨p, hp, q⟩ := hasB_iff.1 h
  exact hasB_iff.2 ⟨p, List.mem_of_mem_take hp, q⟩
theorem has_at {l : LP} {x : Int} : hasB l x = true ↔ ∃ (j : Nat) (p : Int × Int), l[j]? = some p ∧ p.1 ≤ x ∧ x < p.2 := by
  rw [hasB_iff]
  exact ⟨fun ⟨p, hp, q⟩ => by obtain ⟨j, hj, e⟩ := List.mem_iff_getElem.1 hp; exact ⟨j, p, by rw [List.getElem?_eq_getElem hj, e], q⟩, fun ⟨j, p, hp, q⟩ => ⟨p, List.mem_of_getElem? hp, q⟩⟩
theorem has_take_at {l : LP} {k : Nat} {x : Int} : hasB (l.take k) x = true ↔ ∃ (j : Nat) (p : Int × Int), j < k ∧ l[j]? = some p ∧ p.1 ≤ x ∧ x < p.2 := by
  rw [has_at]
  constructor
  · rintro ⟨j, p, hp, q⟩
    rw [List.getElem?_take] at hp
    split at hp
    · exact ⟨j, p, by assumption, hp, q⟩
    · cases hp
  · rintro ⟨j, p, hj, hp, q⟩
    exact ⟨j, p, by rw [List.getElem?_take, if_pos hj]; exact hp, q⟩
/-- A step of Meet, at the pairs (f, t) of a and (u, v) of b. -/
def meetF (a b : LP) (i k : Nat) (x : Int) : Bool := (hasB (a.take i) x && hasB b x) || (hasB a x && hasB (b.take k) x)
theorem meet_start (a b : LP) (x : Int) : meetF a b 0 0 x = false := by simp [meetF, hasB]
theorem meet_comm (a b : LP) (i k : Nat) (x : Int) : meetF a b i k x = meetF b a k i x := by
  unfold meetF
  cases hasB (a.take i) x <;> cases hasB b x <;> cases hasB a x <;> cases hasB (b.take k) x <;> rfl
theorem meet_left {a b : LP} (hb : Canon b) {i k : Nat} {p q : Int × Int} (hp : a[i]? = some p) (hq : b[k]? = some q) (h : p.2 ≤ q.2) (x : Int) :
    meetF a b (i + 1) k x = (meetF a b i k x || decide (max p.1 q.1 ≤ x ∧ x < min p.2 q.2)) := by
  unfold meetF
  rw [take_succ_has a i p hp]
  by_cases hx : p.1 ≤ x ∧ x < p.2
  · rw [decide_eq_true hx]
    have ha : hasB a x = true := has_at.2 ⟨i, p, hp, hx⟩
    rw [ha]
    by_cases hq2 : q.1 ≤ x ∧ x < q.2
    · have hB : hasB b x = true := has_at.2 ⟨k, q, hq, hq2⟩
      rw [hB, decide_eq_true (by omega)]
      simp
    · rw [decide_eq_false (by omega)]
      have : hasB b x = true → hasB (b.take k) x = true := fun h => by
        obtain ⟨j, r, hr, r1, r2⟩ := has_at.1 h
        refine has_take_at.2 ⟨j, r, ?_, hr, r1, r2⟩
        rcases Nat.lt_trichotomy j k with hj | rfl | hj
        · exact hj
        · rw [hq] at hr; cases hr; omega
        · have := hb.get hj hq hr; omega
      cases e1 : hasB b x
      · cases hasB (b.take k) x <;> simp
      · rw [this e1]; simp
  · rw [decide_eq_false hx, decide_eq_false (by omega)]
    simp
theorem meet_right {a b : LP} (ha : Canon a) {i k : Nat} {p q : Int × Int} (hp : a[i]? = some p) (hq : b[k]? = some q) (h : q.2 ≤ p.2) (x : Int) :
    meetF a b i (k + 1) x = (meetF a b i k x || decide (max p.1 q.1 ≤ x ∧ x < min p.2 q.2)) := by
  rw [meet_comm, meet_left ha hq hp h, meet_comm b a k i]
  congr 1
  rw [decide_eq_decide]
  omega
theorem meet_end {a b : LP} {i k : Nat} (h : a.length ≤ i ∨ b.length ≤ k) (x : Int) : meetF a b i k x = (hasB a x && hasB b x) := by
  unfold meetF
  rcases h with h | h
  · rw [take_all a i h]
    cases e : hasB (b.take k) x
    · simp
    · rw [has_take_imp e]; simp
  · rw [take_all b k h]
    cases e : hasB (a.take i) x
    · simp
    · rw [has_take_imp e]; simp
/-- Minus: behind the spans ahead of i and up to f. -/
def minusF (a b : LP) (i : Nat) (lo f x : Int) : Bool := (hasB (a.take i) x || decide (lo ≤ x ∧ x < f)) && !hasB b x
theorem minus_start (a b : LP) (x : Int) : minusF a b 0 0 0 x = false := by simp [minusF, hasB]; omega
theorem gap {b : LP} (hb : Canon b) {k : Nat} {f : Int} (hk : ∀ (j : Nat) (r : Int × Int), j < k → b[j]? = some r → r.2 ≤ f) {x : Int} (h1 : f ≤ x) (h2 : ∀ q, b[k]? = some q → x < q.1) : hasB b x = false := by
  rw [← Bool.not_eq_true, has_at]
  rintro ⟨j, r, hr, r1, r2⟩
  rcases Nat.lt_trichotomy j k with hj | rfl | hj
  · have := hk j r hj hr; omega
  · have := h2 r hr; omega
  · obtain ⟨q, hq⟩ : ∃ q, b[k]? = some q := ⟨b[k]'(by have := (List.getElem?_eq_some_iff.1 hr).1; omega), List.getElem?_eq_getElem _⟩
    have := hb.get hj hq hr
    have := hb.at hq
    have := h2 q hq
    omega
theorem minus_step {a b : LP} (hb : Canon b) {i k : Nat} {lo f : Int} {q : Int × Int} (hq : b[k]? = some q) (hk : ∀ (j : Nat) (r : Int × Int), j < k → b[j]? = some r → r.2 ≤ f) (hlo : lo ≤ f) (x : Int) :
    minusF a b i lo (max f q.2) x = (minusF a b i lo f x || decide (f ≤ x ∧ x < q.1)) := by
  unfold minusF
  by_cases h : f ≤ x ∧ x < q.1
  · have hqq := hb.at hq
    rw [decide_eq_true (show lo ≤ x ∧ x < max f q.2 by omega), decide_eq_true h, gap hb hk h.1 (fun q' hq' => by rw [hq] at hq'; cases hq'; exact h.2)]
    simp
  · rw [decide_eq_false h, Bool.or_false]
    by_cases h2 : lo ≤ x ∧ x < f
    · rw [decide_eq_true h2, decide_eq_true (by omega)]
    · by_cases h3 : lo ≤ x ∧ x < max f q.2
      · have : hasB b x = true := has_at.2 ⟨k, q, hq, by omega, by omega⟩
        rw [this]; simp
      · rw [decide_eq_false h2, decide_eq_false h3]
/-- The rest of a span, when no further span of b lies in it. -/
theorem minus_rest {a b : LP} (hb : Canon b) {i k : Nat} {lo f t : Int} (hp : a[i]? = some (lo, t)) (hk : ∀ (j : Nat) (r : Int × Int), j < k → b[j]? = some r → r.2 ≤ f) (hlo : lo ≤ f) (hf : f ≤ t) (hn : ∀ q, b[k]? = some q → t ≤ q.1) (x : Int) :
    (hasB (a.take (i + 1)) x && !hasB b x) = (minusF a b i lo f x || decide (f ≤ x ∧ x < t)) := by
  unfold minusF
  rw [take_succ_has a i _ hp]
  by_cases h : f ≤ x ∧ x < t
  · rw [decide_eq_true (show (lo, t).1 ≤ x ∧ x < (lo, t).2 by dsimp; omega), decide_eq_true h, gap hb hk h.1 (fun q' hq' => by have := hn q' hq'; omega)]
    simp
  · rw [decide_eq_false h, Bool.or_false]
    have : decide ((lo, t).1 ≤ x ∧ x < (lo, t).2) = decide (lo ≤ x ∧ x < f) := by rw [decide_eq_decide]; dsimp; omega
    rw [this]
/-- The rest of a span that a span of b covers to its end. -/
theorem minus_over {a b : LP} (hb : Canon b) {i k : Nat} {lo f t : Int} {q : Int × Int} (hp : a[i]? = some (lo, t)) (hq : b[k]? = some q) (hk : ∀ (j : Nat) (r : Int × Int), j < k → b[j]? = some r → r.2 ≤ f) (hlo : lo ≤ f) (hf : f ≤ t) (h1 : q.1 < t) (h2 : t ≤ q.2) (x : Int) :
    (hasB (a.take (i + 1)) x && !hasB b x) = (minusF a b i lo f x || decide (f ≤ x ∧ x < q.1)) := by
  have hqq := hb.at hq
  rw [← minus_step hb hq hk hlo]
  unfold minusF
  rw [take_succ_has a i _ hp]
  by_cases h : lo ≤ x ∧ x < t
  · rw [decide_eq_true (show (lo, t).1 ≤ x ∧ x < (lo, t).2 from h), decide_eq_true (by omega)]
  · rw [decide_eq_false (show ¬ ((lo, t).1 ≤ x ∧ x < (lo, t).2) from h)]
    by_cases h3 : lo ≤ x ∧ x < max f q.2
    · have : hasB b x = true := has_at.2 ⟨k, q, hq, by omega, by omega⟩
      rw [this]; simp
    · rw [decide_eq_false h3]
theorem minus_next (a b : LP) (i : Nat) (lo : Int) (x : Int) : minusF a b i lo lo x = (hasB (a.take i) x && !hasB b x) := by
  unfold minusF
  rw [decide_eq_false (show ¬ (lo ≤ x ∧ x < lo) by omega), Bool.or_false]
/-- How many numbers. -/
def lenL (l : LP) : Int := (l.map fun p => p.2 - p.1).sum
theorem lenL_cons (p : Int × Int) (l : LP) : lenL (p :: l) = p.2 - p.1 + lenL l := by simp [lenL]
theorem lenL_append (a b : LP) : lenL (a ++ b) = lenL a + lenL b := by simp [lenL]
def cnt (f : Int → Bool) (lo : Int) : Nat → Int
  | 0 => 0
  | n + 1 => cnt f lo n + if f (lo + n) then 1 else 0
theorem cnt_congr {f g : Int → Bool} (lo : Int) (h : ∀ x, f x = g x) (n : Nat) : cnt f lo n = cnt g lo n := by
  induction n with
  | zero => rfl
  | succ n ih => rw [cnt, cnt, ih, h]
theorem cnt_or {f g : Int → Bool} (lo : Int) (h : ∀ x, ¬ (f x = true ∧ g x = true)) (n : Nat) : cnt (fun x => f x || g x) lo n = cnt f lo n + cnt g lo n := by
  induction n with
  | zero => rfl
  | succ n ih =>
    rw [cnt, cnt, cnt, ih]
    have := h (lo + n)
    cases e1 : f (lo + n) <;> cases e2 : g (lo + n)
    · simp
    · simp; omega
    · simp; omega
    · exact absurd ⟨e1, e2⟩ this
theorem cnt_none (lo : Int) (n : Nat) : cnt (fun _ => false) lo n = 0 := by
  induction n with
  | zero => rfl
  | succ n ih => rw [cnt, ih]; rfl
theorem cnt_one (a b lo : Int) (n : Nat) : cnt (fun x => decide (a ≤ x ∧ x < b)) lo n = max 0 (min b (lo + n) - max a lo) := by
  induction n with
  | zero => rw [cnt]; omega
  | succ n ih =>
    rw [cnt, ih]
    by_cases h : a ≤ lo + (n : Int) ∧ lo + (n : Int) < b
    · rw [decide_eq_true h, if_pos rfl]; push_cast; omega
    · rw [decide_eq_false h, if_neg (by simp)]; push_cast; omega
theorem cnt_nonneg (f : Int → Bool) (lo : Int) (n : Nat) : 0 ≤ cnt f lo n := by
  induction n with
  | zero => exact Int.le_refl _
  | succ n ih => rw [cnt]; split <;> omega
theorem cnt_le (f : Int → Bool) (lo : Int) (n : Nat) : cnt f lo n ≤ n := by
  induction n with
  | zero => exact Int.le_refl _
  | succ n ih => rw [cnt]; push_cast; split <;> omega
def Inside (l : LP) (lo hi : Int) : Prop := ∀ p ∈ l, lo ≤ p.1 ∧ p.2 ≤ hi
theorem lenL_cnt {l : LP} (h : Canon l) {lo : Int} {n : Nat} (hi : Inside l lo (lo + n)) : lenL l = cnt (hasB l) lo n := by
  induction l with
  | nil => exact (cnt_none lo n).symm
  | cons p t ih =>
    obtain ⟨h1, h2, h3⟩ := canon_cons.1 h
    have i1 := hi p (by simp)
    rw [lenL_cons, ih h3 (fun q hq => hi q (by simp [hq])), cnt_congr lo (hasB_cons p t), cnt_or lo, cnt_one]
    · omega
    · rintro x ⟨a, b⟩
      obtain ⟨r, hr, r1, r2⟩ := hasB_iff.1 b
      have := h2 r hr
      have := of_decide_eq_true a
      omega
theorem Inside.take {l : LP} {lo hi : Int} (h : Inside l lo hi) (k : Nat) : Inside (l.take k) lo hi := fun p hp => h p (List.mem_of_mem_take hp)
theorem Canon.take {l : LP} (h : Canon l) (k : Nat) : Canon (l.take k) := ⟨fun p hp => h.one p (List.mem_of_mem_take hp), h.apart.take⟩
theorem lenL_bounds {l : LP} (h : Canon l) {lo hi : Int} (hl : lo ≤ hi) (hI : Inside l lo hi) (k : Nat) : 0 ≤ lenL (l.take k) ∧ lenL (l.take k) ≤ hi - lo := by
  have e : lo + ((hi - lo).toNat : Int) = hi := by omega
  have := lenL_cnt (h.take k) (lo := lo) (n := (hi - lo).toNat) (by rw [e]; exact hI.take k)
  rw [this]
  have h1 := cnt_nonneg (hasB (l.take k)) lo (hi - lo).toNat
  have h2 := cnt_le (hasB (l.take k)) lo (hi - lo).toNat
  omega
theorem lenL_succ (l : LP) (k : Nat) (p : Int × Int) (hp : l[k]? = some p) : lenL (l.take (k + 1)) = lenL (l.take k) + (p.2 - p.1) := by
  rw [List.take_add_one, hp, lenL_append]; simp [lenL]
theorem inside_of_has {l m : LP} (h : Canon l) {lo hi : Int} (hm : Inside m lo hi) (hs : ∀ x, hasB l x = true → hasB m x = true) : Inside l lo hi := by
  intro p hp
  have h1 := h.one p hp
  obtain ⟨q, hq, q1, q2⟩ := hasB_iff.1 (hs p.1 (hasB_iff.2 ⟨p, hp, by omega, by omega⟩))
  obtain ⟨r, hr, r1, r2⟩ := hasB_iff.1 (hs (p.2 - 1) (hasB_iff.2 ⟨p, hp, by omega, by omega⟩))
  have := hm q hq
  have := hm r hr
  omega
/-- The least numbers. -/
def firstL : LP → Int → LP
  | [], _ => []
  | p :: t, n => if n < 1 then [] else if n < p.2 - p.1 then [(p.1, p.1 + n)] else p :: firstL t (n - (p.2 - p.1))
theorem lenL_nonneg {l : LP} (h : Canon l) : 0 ≤ lenL l := by
  induction l with
  | nil => exact Int.le_refl _
  | cons p t ih =>
    obtain ⟨h1, _, h3⟩ := canon_cons.1 h
    rw [lenL_cons]
    have := ih h3
    omega
theorem firstL_spec {l : LP} (h : Canon l) (n : Int) (hn : 0 ≤ n) : Canon (firstL l n) ∧ lenL (firstL l n) = min n (lenL l) ∧ (∀ x, hasB (firstL l n) x = true → hasB l x = true) ∧ (∀ x y, hasB (firstL l n) x = true → hasB l y = true → hasB (firstL l n) y = false → x < y) ∧ ∀ p ∈ firstL l n, ∃ q ∈ l, q.1 = p.1 := by
  induction l generalizing n with
  | nil => exact ⟨Canon.nil, by simp [firstL, lenL]; omega, by simp [firstL], by simp [firstL, hasB], by simp [firstL]⟩
  | cons p t ih =>
    obtain ⟨h1, h2, h3⟩ := canon_cons.1 h
    have l0 : 0 ≤ lenL t := lenL_nonneg h3
    by_cases a1 : n < 1
    · obtain rfl : n = 0 := by omega
      have e : firstL (p :: t) 0 = [] := by simp [firstL]
      rw [e]
      exact ⟨Canon.nil, by rw [lenL_cons]; simp [lenL] at l0 ⊢; omega, by simp [hasB], by simp [hasB], by simp⟩
    · by_cases a2 : n < p.2 - p.1
      · have e : firstL (p :: t) n = [(p.1, p.1 + n)] := by simp [firstL, a1, a2]
        rw [e]
        refine ⟨canon_cons.2 ⟨by dsimp; omega, by simp, Canon.nil⟩, by rw [lenL_cons, lenL_cons]; simp [lenL] at l0 ⊢; omega, fun x hx => ?_, fun x y hx hy hy' => ?_, ?_⟩
        · simp [hasB_cons, hasB_nil] at hx ⊢; omega
        · simp [hasB_cons, hasB_nil] at hx hy'
          obtain ⟨r, hr, r1, r2⟩ := hasB_iff.1 hy
          rcases List.mem_cons.1 hr with rfl | hr
          · omega
          · have := h2 r hr; omega
        · intro q hq; simp at hq; subst hq; exact ⟨p, by simp, rfl⟩
      · have e : firstL (p :: t) n = p :: firstL t (n - (p.2 - p.1)) := by simp [firstL, a1, a2]
        obtain ⟨i1, i2, i3, i4, i5⟩ := ih h3 (n - (p.2 - p.1)) (by omega)
        rw [e]
        refine ⟨canon_cons.2 ⟨h1, fun q hq => ?_, i1⟩, by rw [lenL_cons, lenL_cons, i2]; omega, fun x hx => ?_, fun x y hx hy hy' => ?_, fun q hq => ?_⟩
        · obtain ⟨r, hr, e⟩ := i5 q hq
          have := h2 r hr; omega
        · rw [hasB_cons, Bool.or_eq_true] at hx ⊢
          exact hx.imp id (i3 x)
        · rw [hasB_cons, Bool.or_eq_true] at hx hy
          rw [hasB_cons, Bool.or_eq_false_iff] at hy'
          have hy2 : hasB t y = true := hy.resolve_left (by rw [hy'.1]; simp)
          rcases hx with hx | hx
          · obtain ⟨r, hr, r1, r2⟩ := hasB_iff.1 hy2
            have := h2 r hr
            have := of_decide_eq_true hx
            omega
          · exact i4 x y hx hy2 hy'.2
        · rcases List.mem_cons.1 hq with rfl | hq
          · exact ⟨q, by simp, rfl⟩
          · obtain ⟨r, hr, e⟩ := i5 q hq
            exact ⟨r, by simp [hr], e⟩
/-- Moved. -/
def moveL (l : LP) (d : Int) : LP := l.map fun p => (p.1 + d, p.2 + d)
theorem moveL_canon {l : LP} (h : Canon l) (d : Int) : Canon (moveL l d) := by
  refine ⟨fun p hp => ?_, ?_⟩
  · obtain ⟨q, hq, rfl⟩ := List.mem_map.1 hp
    have := h.one q hq; dsimp; omega
  · exact List.pairwise_map.2 (h.apart.imp fun {a b} hab => by dsimp; omega)
theorem moveL_back (l : LP) (d : Int) : moveL (moveL l d) (-d) = l := by
  unfold moveL
  rw [List.map_map]
  refine (List.map_congr_left fun p _ => ?_).trans (List.map_id l)
  show (p.1 + d + -d, p.2 + d + -d) = p
  exact Prod.ext (by dsimp; omega) (by dsimp; omega)
theorem moveL_len (l : LP) (d : Int) : lenL (moveL l d) = lenL l := by
  induction l with
  | nil => rfl
  | cons p t ih => rw [lenL_cons, ← ih]; simp [moveL, lenL]; omega
theorem moveL_length (l : LP) (d : Int) : (moveL l d).length = l.length := by simp [moveL]
theorem moveL_get (l : LP) (d : Int) (k : Nat) (p : Int × Int) (h : l[k]? = some p) : (moveL l d)[k]? = some (p.1 + d, p.2 + d) := by simp [moveL, h]
theorem moveL_inside {l : LP} {lo hi : Int} (h : Inside l lo hi) (d : Int) : Inside (moveL l d) (lo + d) (hi + d) := by
  intro p hp
  obtain ⟨q, hq, rfl⟩ := List.mem_map.1 hp
  have := h q hq; dsimp; omega
end Spn
end Go.Proofs.Ytfmhfhggogjbkaa
