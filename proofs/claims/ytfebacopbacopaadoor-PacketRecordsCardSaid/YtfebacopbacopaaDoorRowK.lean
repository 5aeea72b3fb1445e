/- Rows of elements of several cells: what stays of them. -/
import Derived.Test.YtfebacopbacopaaDoorDiceN
import Derived.Laws.AppendOwn
import Derived.Laws.OwnMore
import Derived.Deep.AppendLies
set_option linter.unusedVariables false
set_option linter.unusedSimpArgs false
namespace Go.Proofs.YtfebacopbacopaaDoor
open Go.RowKit
namespace Rk
open Dice
theorem own_ne {w : World} {B sz : Nat} {e T : TypeId} {v : Value} {n : Nat} {xs : List Value} {b : Nat} {cs : Array Value} {fr : Nat × Nat} (hown : w.ownsRow B e sz v n xs) (hb : w.heap[b]? = some (.cells cs T fr)) (hTe : T ≠ e) : v.ownBlock ≠ some b := by
  intro he
  rcases hown.2 with ⟨rfl, _⟩ | ⟨g, cap, cur, rfl, _, hg, _⟩
  · cases he
  · simp only [Value.ownBlock, Option.some.injEq] at he
    subst he
    rw [hb] at hg
    cases hg
    exact hTe rfl
theorem own_kept {w w' : World} {B sz : Nat} {e : TypeId} {v : Value} {n : Nat} {xs : List Value} (h : w.ownsRow B e sz v n xs) (hb : ∀ k, v.ownBlock = some k → w'.heap[k]? = w.heap[k]?) : w'.ownsRow B e sz v n xs := by
  refine ⟨h.1, h.2.imp id ?_⟩
  rintro ⟨g, cap, cur, rfl, h1, h2, h3⟩
  exact ⟨g, cap, cur, rfl, h1, (hb g rfl).trans h2, h3⟩
theorem own_below {w w' : World} {B sz : Nat} {e : TypeId} {v : Value} {n : Nat} {xs : List Value} (h : w.ownsRow B e sz v n xs) (hb : Below w.heap.size w w') : w'.ownsRow B e sz v n xs := own_kept h fun k hk => hb.block k (h.lt k hk).2
theorem own_left {W w w' : World} {g : Nat} {a : Option Addr} {len cap : Nat} {zs : List Int} {B sz : Nat} {e : TypeId} {v : Value} {n : Nat} {xs : List Value} (h : w.ownsRow B e sz v n xs) (hd : Di W w g a len cap zs) (he : 61 ≠ e) (l : Dice.Left W w w' g a len cap zs) : w'.ownsRow B e sz v n xs := by
  obtain ⟨p, _, hb⟩ := hd.blk
  have hne := own_ne h hb he
  exact own_kept h fun k hk => l.far.block k (h.lt k hk).2 (fun e => by rw [e] at hk; exact hne hk)
theorem own_mono {w : World} {B B' sz : Nat} {e : TypeId} {v : Value} {n : Nat} {xs : List Value} (h : w.ownsRow B e sz v n xs) (hB : B' ≤ B) : w.ownsRow B' e sz v n xs :=
  ⟨h.1, h.2.imp id fun ⟨g, cap, cur, h1, h2, h3⟩ => ⟨g, cap, cur, h1, by omega, h3⟩⟩
/-- The shape of what owns a row. -/
theorem own_shape {w : World} {B sz : Nat} {e : TypeId} {v : Value} {n : Nat} {xs : List Value} (h : w.ownsRow B e sz v n xs) :
    (v = .slice none 0 0 ∧ n = 0) ∨ ∃ g c, v = .slice (some ⟨g, 0, none⟩) n c ∧ n ≤ c ∧ g < w.heap.size := by
  rcases h.2 with h | ⟨g, cap, cur, rfl, h1, h2, h3, _⟩
  · exact .inl h
  · exact .inr ⟨g, cap, rfl, h3, (Array.getElem?_eq_some_iff.1 h2).1⟩
theorem Geo_new (w : World) (o : Obj) : (w.alloc o).heap[w.heap.size]? = some o := heap_alloc_new w o
/-- The cells of pairs of a code and a number. -/
def cellsW (l : List (Nat × Int)) : List Value := l.flatMap fun p => [.int .i64 (p.1 : Nat), .int .i64 p.2]
theorem cellsW_snoc (l : List (Nat × Int)) (x : Nat) (y : Int) : cellsW (l ++ [(x, y)]) = cellsW l ++ [.int .i64 (x : Nat), .int .i64 y] := by simp [cellsW, List.flatMap_append]
theorem cellsW_app (l m : List (Nat × Int)) : cellsW (l ++ m) = cellsW l ++ cellsW m := by simp [cellsW, List.flatMap_append]
theorem cellsW_length (l : List (Nat × Int)) : (cellsW l).length = l.length * 2 := by
  induction l with
  | nil => rfl
  | cons q l ih =>
    have e : cellsW (q :: l) = .int .i64 (q.1 : Nat) :: .int .i64 q.2 :: cellsW l := by simp [cellsW]
    rw [e]; simp [ih]; omega
theorem cellsW_get (l : List (Nat × Int)) (k : Nat) (p : Nat × Int) (h : l[k]? = some p) : (cellsW l)[k * 2]? = some (.int .i64 (p.1 : Nat)) ∧ (cellsW l)[k * 2 + 1]? = some (.int .i64 p.2) := by
  induction l generalizing k with
  | nil => simp at h
  | cons q l ih =>
    have e : cellsW (q :: l) = .int .i64 (q.1 : Nat) :: .int .i64 q.2 :: cellsW l := by simp [cellsW]
    rw [e]
    cases k with
    | zero => simp at h; subst h; simp
    | succ k =>
      have := ih k (by simpa using h)
      have e1 : (k + 1) * 2 = k * 2 + 1 + 1 := by omega
      rw [e1]
      simpa using this
end Rk
end Go.Proofs.YtfebacopbacopaaDoor
