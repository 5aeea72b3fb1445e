/- Frames of what a link's law keeps. -/
import Derived.Test.YtjgbidnijfecoaaLnkG
set_option linter.unusedVariables false
set_option linter.unusedSimpArgs false
namespace Go.Proofs.Ytjgbidnijfecoaa
open Go.RowKit Wi Dice
namespace Lnk
theorem own_left {W w w' : World} {g : Nat} {a : Option Addr} {len cap : Nat} {zs : List Int} {B sz : Nat} {e : TypeId} {v : Value} {n : Nat} {xs : List Value} (h : w.ownsRow B e sz v n xs) (hd : Di W w g a len cap zs) (he : 49 ≠ e) (l : Dice.Left W w w' g a len cap zs) : w'.ownsRow B e sz v n xs := by
  obtain ⟨p, _, hb⟩ := hd.blk
  refine own_kept h fun k hk => l.far.block k (h.lt k hk).2 ?_
  intro he2
  obtain rfl : k = g := by simpa using he2
  rcases h.2 with ⟨rfl, _⟩ | ⟨g', cap', cur, rfl, _, hg, _⟩
  · cases hk
  · simp only [Value.ownBlock, Option.some.injEq] at hk
    subst hk
    rw [hb] at hg
    cases hg
    exact he rfl
theorem lblk {W w w' : World} {g : Nat} {a : Option Addr} {len cap : Nat} {zs : List Int} (l : Dice.Left W w w' g a len cap zs) {k : Nat} {o : Obj} (hk : w.heap[k]? = some o) (hne : k ≠ g) : w'.heap[k]? = some o :=
  (l.far.block k (Array.getElem?_eq_some_iff.1 hk).1 (by simpa using hne)).trans hk
theorem own_ne {w : World} {B sz : Nat} {e T : TypeId} {v : Value} {n : Nat} {xs : List Value} {b : Nat} {cs : Array Value} {fr : Nat × Nat} (hown : w.ownsRow B e sz v n xs) (hb : w.heap[b]? = some (.cells cs T fr)) (hTe : T ≠ e) : v.ownBlock ≠ some b := by
  intro he
  rcases hown.2 with ⟨rfl, _⟩ | ⟨g, cap, cur, rfl, _, hg, _⟩
  · cases he
  · simp only [Value.ownBlock, Option.some.injEq] at he
    subst he
    rw [hb] at hg
    cases hg
    exact hTe rfl
theorem own_own_ne {w : World} {B B' sz sz' : Nat} {e e' : TypeId} {v v' : Value} {n n' : Nat} {xs xs' : List Value} (h : w.ownsRow B e sz v n xs) (h' : w.ownsRow B' e' sz' v' n' xs') (hT : e ≠ e') {k : Nat} (hk : v.ownBlock = some k) : v'.ownBlock ≠ some k := by
  rcases h.2 with ⟨rfl, _⟩ | ⟨g, cap, cur, rfl, _, hg, _⟩
  · cases hk
  · simp only [Value.ownBlock, Option.some.injEq] at hk
    subst hk
    exact own_ne h' hg hT
def abc : Nat → ByteArray
  | 0 => ⟨#[97]⟩
  | 1 => ⟨#[98]⟩
  | _ => ⟨#[99]⟩
theorem abc_small (q : Nat) : (abc q).size ≤ 4096 := by unfold abc; split <;> decide
theorem abc_at {w : World} {b q : Nat} {t : TypeId} (h : w.heap[b]? = some (.cells #[.string ⟨#[97]⟩, .string ⟨#[98]⟩, .string ⟨#[99]⟩] t (0, 0))) (hq : q < 3) : w.cell? ⟨b, q, none⟩ = some (.string (abc q)) := by
  obtain rfl | rfl | rfl : q = 0 ∨ q = 1 ∨ q = 2 := by omega
  · exact (c3 h).1
  · exact (c3 h).2.1
  · exact (c3 h).2.2
theorem due_all (t : Int) : ∀ (L : List (Int × Int × ByteArray)), (∀ (k : Nat) (p : Int × Int × ByteArray), L[k]? = some p → p.1 = t) → due t L = L.length
  | [], _ => rfl
  | p :: L, h => by
    have h0 := h 0 p (by simp)
    unfold due
    rw [if_pos h0, due_all t L (fun k q hq => h (k + 1) q (by simpa using hq))]
    simp
/-- The state of a tick under way. -/
def At (now ord : Int) (L : List (Int × Int × ByteArray)) : Prop := Good now ord L ∧ ∀ (k : Nat) (p : Int × Int × ByteArray), L[k]? = some p → p.1 = now + 1
theorem At.le {now ord : Int} {L : List (Int × Int × ByteArray)} (h : At now ord L) : ∀ (k : Nat) (p : Int × Int × ByteArray), L[k]? = some p → p.1 ≤ now + 1 + 0 := fun k p hp => by have := h.2 k p hp; omega
theorem At.more {now ord : Int} {L : List (Int × Int × ByteArray)} (h : At now ord L) (s : ByteArray) (n : Nat) (n1 : n ≤ 1) (hs : s.size ≤ 4096) (hl : L.length ≤ 100) (hw : now ≤ 1000) (ho : ord ≤ 1000) : At now (ord + 1) (L ++ news (now + 1 + 0) ord s n) := by
  refine ⟨good_more h.1 h.le (by omega) n hs (by omega) (by omega) (by omega), fun k p hp => ?_⟩
  rcases both_get hp with h1 | ⟨_, h1⟩
  · exact h.2 k p h1
  · obtain ⟨h2, rfl⟩ := news_get h1
    simp only
    omega
theorem dat_news1 (L : List (Int × Int × ByteArray)) (x y : Int) (s : ByteArray) : dat (L ++ news x y s 1) = dat L ++ [s] := by simp [dat, news]
end Lnk
end Go.Proofs.Ytjgbidnijfecoaa
