/- Two streams of messages on one link: the mathematics. -/
import Derived.Test.YtjgbidnijfecoaaLnkP
import Derived.Test.YtjgbidnijfecoaaLnkK
set_option linter.unusedVariables false
set_option linter.unusedSimpArgs false
namespace Go.Proofs.Ytjgbidnijfecoaa
open Go.RowKit Wi Dice
namespace Lnk
abbrev T2 := Int × ByteArray
def isA (s : ByteArray) : Bool := s.data[0]? == some 97
def pj (L : List T3) : List T2 := L.map fun p => (p.1, p.2.2)
def fa (c : Bool) (l : List T2) : List T2 := l.filter fun p => isA p.2 == c
def insP (x : Int) (s : ByteArray) (l : List T2) : List T2 := l.filter (fun p => decide (p.1 ≤ x)) ++ (x, s) :: l.filter (fun p => !decide (p.1 ≤ x))
theorem take_pos_filter (m : T3) : ∀ (L : List T3), L.Pairwise ls → L.take (pos m L) = L.filter (fun p => decide (ls p m)) ∧ L.drop (pos m L) = L.filter (fun p => !decide (ls p m))
  | [], _ => by simp [pos]
  | p :: L, h => by
    obtain ⟨h1, h2⟩ := List.pairwise_cons.1 h
    obtain ⟨i1, i2⟩ := take_pos_filter m L h2
    unfold pos
    by_cases hp : ls p m
    · rw [if_pos hp]
      simp [hp, i1, i2]
    · rw [if_neg hp]
      have hn : ∀ q ∈ L, ¬ ls q m := fun q hq hqm => hp (ls_trans (h1 q hq) hqm)
      refine ⟨?_, ?_⟩
      · rw [List.take_zero]
        symm
        refine List.filter_eq_nil_iff.2 fun q hq => ?_
        rcases List.mem_cons.1 hq with rfl | hq
        · simpa using hp
        · simpa using hn q hq
      · rw [List.drop_zero]
        symm
        refine List.filter_eq_self.2 fun q hq => ?_
        rcases List.mem_cons.1 hq with rfl | hq
        · simpa using hp
        · simpa using hn q hq
theorem pj_ins {x y : Int} {s : ByteArray} {L : List T3} (h : L.Pairwise ls) (he : ∀ p ∈ L, p.1 = x → p.2.1 < y) : pj (ins (x, y, s) L) = insP x s (pj L) := by
  obtain ⟨i1, i2⟩ := take_pos_filter (x, y, s) L h
  have hiff : ∀ p ∈ L, decide (ls p (x, y, s)) = decide (p.1 ≤ x) := fun p hp => by
    have := he p hp
    apply decide_eq_decide.2
    unfold ls
    simp only
    constructor
    · omega
    · intro hle
      by_cases e : p.1 = x
      · right; exact ⟨e, this e⟩
      · left; omega
  unfold ins put insP pj
  rw [i1, i2, List.map_append, List.map_cons, List.filter_map, List.filter_map]
  congr 1
  · congr 1
    exact List.filter_congr fun p hp => by simpa using hiff p hp
  · congr 2
    exact List.filter_congr fun p hp => by simp [hiff p hp]
theorem sorted_split {x : Int} : ∀ {l : List T2}, l.Pairwise (fun p q => p.1 ≤ q.1) → l.filter (fun p => decide (p.1 ≤ x)) ++ l.filter (fun p => !decide (p.1 ≤ x)) = l
  | [], _ => rfl
  | p :: l, h => by
    obtain ⟨h1, h2⟩ := List.pairwise_cons.1 h
    have ih := sorted_split (x := x) h2
    by_cases hp : p.1 ≤ x
    · simp [hp] at ih ⊢; exact ih
    · have e1 : l.filter (fun p => decide (p.1 ≤ x)) = [] := List.filter_eq_nil_iff.2 fun q hq => by have := h1 q hq; simp; omega
      rw [e1] at ih
      simp only [List.nil_append] at ih
      simp only [List.filter_cons, hp, decide_false, Bool.false_eq_true, if_false, Bool.not_false, if_true, e1, List.nil_append]
      rw [ih]
theorem fa_insP_same {x : Int} {s : ByteArray} {l : List T2} {c : Bool} (h : isA s = c) : fa c (insP x s l) = insP x s (fa c l) := by
  unfold fa insP
  rw [List.filter_append, List.filter_cons]
  simp only [h, beq_self_eq_true, if_true, List.filter_filter]
  congr 1
  · exact List.filter_congr fun p _ => Bool.and_comm _ _
  · congr 1
    exact List.filter_congr fun p _ => Bool.and_comm _ _
theorem fa_insP_other {x : Int} {s : ByteArray} {l : List T2} {c : Bool} (h : isA s ≠ c) (hl : l.Pairwise (fun p q => p.1 ≤ q.1)) : fa c (insP x s l) = fa c l := by
  conv => rhs; rw [← sorted_split (x := x) hl]
  unfold fa insP
  rw [List.filter_append, List.filter_cons, List.filter_append]
  have e : (isA s == c) = false := beq_eq_false_iff_ne.2 h
  simp only [e, Bool.false_eq_true, if_false]
def insPN (x : Int) (s : ByteArray) (l : List T2) : Nat → List T2
  | 0 => l
  | n + 1 => insP (x + (n : Int)) s (insPN x s l n)
theorem pj_insN {x y : Int} {s : ByteArray} {L : List T3} (h : L.Pairwise ls) (hy : ∀ p ∈ L, p.2.1 < y) : ∀ n, pj (insN x y s L n) = insPN x s (pj L) n
  | 0 => rfl
  | n + 1 => by
    show pj (ins (x + (n : Int), y, s) (insN x y s L n)) = insP (x + (n : Int)) s (insPN x s (pj L) n)
    rw [pj_ins (insN_pw h hy n), pj_insN h hy n]
    intro p hp e
    rcases insN_apart (s := s) hy n p hp with h1 | h1
    · unfold ls at h1; simp only at h1; omega
    · exfalso
      rcases List.mem_append.1 ((insN_perm x y s L n).mem_iff.1 hp) with h2 | h2
      · obtain ⟨k, hk, rfl⟩ := news_mem h2
        simp only at e; omega
      · have := hy p h2
        unfold ls at h1; simp only at h1; omega
theorem pj_sorted {L : List T3} (h : L.Pairwise ls) : (pj L).Pairwise (fun p q => p.1 ≤ q.1) := by
  unfold pj
  rw [List.pairwise_map]
  exact h.imp fun hpq => by unfold ls at hpq; simp only; omega
theorem fa_insPN_same {x : Int} {s : ByteArray} {l : List T2} {c : Bool} (h : isA s = c) : ∀ n, fa c (insPN x s l n) = insPN x s (fa c l) n
  | 0 => rfl
  | n + 1 => by
    show fa c (insP _ s (insPN x s l n)) = insP _ s (insPN x s (fa c l) n)
    rw [fa_insP_same h, fa_insPN_same h n]
theorem fa_insPN_other {x y : Int} {s : ByteArray} {L : List T3} {c : Bool} (h : isA s ≠ c) (hp : L.Pairwise ls) (hy : ∀ p ∈ L, p.2.1 < y) : ∀ n, fa c (insPN x s (pj L) n) = fa c (pj L)
  | 0 => rfl
  | n + 1 => by
    show fa c (insP _ s (insPN x s (pj L) n)) = _
    rw [fa_insP_other h, fa_insPN_other h hp hy n]
    rw [← pj_insN hp hy n]
    exact pj_sorted (insN_pw hp hy n)
theorem Good.oy {now ord : Int} {L : List T3} (G : Good now ord L) : ∀ p ∈ L, p.2.1 < ord := fun p hp => by
  obtain ⟨k, hk⟩ := List.mem_iff_getElem?.1 hp
  have := G.it k p hk; omega
/-- What arrives, what stays. -/
theorem due_filter {t : Int} {L : List T3} (h : L.Pairwise ls) (hl : ∀ p ∈ L, t ≤ p.1) : L.take (due t L) = L.filter (fun p => p.1 == t) ∧ L.drop (due t L) = L.filter (fun p => !(p.1 == t)) := by
  obtain ⟨h1, h2⟩ := due_split h hl
  have e := List.take_append_drop (due t L) L
  constructor
  · conv => rhs; rw [← e]
    rw [List.filter_append, List.filter_eq_self.2 (fun p hp => by simpa using h1 p hp), List.filter_eq_nil_iff.2 (fun p hp => by have := h2 p hp; simp; omega), List.append_nil]
  · conv => rhs; rw [← e]
    rw [List.filter_append, List.filter_eq_nil_iff.2 (fun p hp => by simpa using h1 p hp), List.filter_eq_self.2 (fun p hp => by have := h2 p hp; simp; omega), List.nil_append]
/-- The messages of one stream. -/
def fs (c : Bool) (l : List ByteArray) : List ByteArray := l.filter fun s => isA s == c
structure AP (c : Bool) (L M : List T3) : Prop where
  eq : pj M = fa c (pj L)
theorem AP.same {c : Bool} {L M : List T3} (h : AP c L M) {now o o' dl : Int} {s : ByteArray} (GL : Good now o L) (GM : Good now o' M) (hs : isA s = c) (n : Nat) : AP c (insN (now + 1 + dl) o s L n) (insN (now + 1 + dl) o' s M n) :=
  ⟨by rw [pj_insN GM.pw GM.oy, pj_insN GL.pw GL.oy, fa_insPN_same hs, h.eq]⟩
theorem AP.other {c : Bool} {L M : List T3} (h : AP c L M) {now o dl : Int} {s : ByteArray} (GL : Good now o L) (hs : isA s ≠ c) (n : Nat) : AP c (insN (now + 1 + dl) o s L n) M :=
  ⟨by rw [pj_insN GL.pw GL.oy, fa_insPN_other hs GL.pw GL.oy, h.eq]⟩
theorem pj_filter (L : List T3) (t : Int) (b : Bool) : pj (L.filter fun p => (p.1 == t) == b) = (pj L).filter fun p => (p.1 == t) == b := by
  unfold pj
  rw [List.filter_map]; rfl
theorem AP.tick {c : Bool} {L M : List T3} (h : AP c L M) {now o o' : Int} (GL : Good now o L) (GM : Good now o' M) :
    AP c (L.drop (due (now + 1) L)) (M.drop (due (now + 1) M)) ∧ dat (M.take (due (now + 1) M)) = fs c (dat (L.take (due (now + 1) L))) := by
  obtain ⟨a1, a2⟩ := due_filter GL.pw GL.ge
  obtain ⟨b1, b2⟩ := due_filter GM.pw GM.ge
  have e0 : ∀ l : List T3, (l.filter fun p => !(p.1 == now + 1)) = l.filter fun p => (p.1 == now + 1) == false := fun l => List.filter_congr fun p _ => by cases (p.1 == now + 1) <;> rfl
  have e1 : ∀ l : List T3, (l.filter fun p => p.1 == now + 1) = l.filter fun p => (p.1 == now + 1) == true := fun l => List.filter_congr fun p _ => by cases (p.1 == now + 1) <;> rfl
  have hd : ∀ l : List T3, dat l = (pj l).map (·.2) := fun l => by unfold dat pj; rw [List.map_map]; rfl
  constructor
  · refine ⟨?_⟩
    rw [a2, b2, e0, e0, pj_filter, pj_filter, h.eq]
    unfold fa
    rw [List.filter_filter, List.filter_filter]
    exact List.filter_congr fun p _ => Bool.and_comm _ _
  · rw [a1, b1, e1, e1, hd, hd, pj_filter, pj_filter, h.eq]
    unfold fa fs
    rw [List.filter_map, List.filter_filter, List.filter_filter]
    congr 1
    exact List.filter_congr fun p _ => Bool.and_comm _ _
theorem fs_cons_same {c : Bool} {s : ByteArray} {l : List ByteArray} (h : isA s = c) : fs c (s :: l) = s :: fs c l := by unfold fs; rw [List.filter_cons, if_pos (by simp [h])]
theorem fs_cons_other {c : Bool} {s : ByteArray} {l : List ByteArray} (h : isA s ≠ c) : fs c (s :: l) = fs c l := by unfold fs; rw [List.filter_cons, if_neg (by simpa using h)]
end Lnk
end Go.Proofs.Ytjgbidnijfecoaa
