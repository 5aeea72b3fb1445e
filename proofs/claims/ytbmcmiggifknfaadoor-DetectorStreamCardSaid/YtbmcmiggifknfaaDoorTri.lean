/- Slices of the call's own whose elements have three cells. -/
import Derived.Test.YtbmcmiggifknfaaDoorDice
import Derived.OwnWalk
import Derived.Laws.AppendOwn
namespace Go.Proofs.YtbmcmiggifknfaaDoor
open Go.RowKit
namespace Tri
/-- The cells of points. -/
def cells (l : List (Int × Int × Int)) : List Value := l.flatMap fun p => [.int .i64 p.1, .int .i64 p.2.1, .int .i64 p.2.2]
theorem cells_append (l m : List (Int × Int × Int)) : cells (l ++ m) = cells l ++ cells m := by simp [cells, List.flatMap_append]
theorem cells_one (x y z : Int) : cells [(x, y, z)] = [.int .i64 x, .int .i64 y, .int .i64 z] := by simp [cells]
theorem cells_snoc (l : List (Int × Int × Int)) (x y z : Int) : cells (l ++ [(x, y, z)]) = cells l ++ [.int .i64 x, .int .i64 y, .int .i64 z] := by rw [cells_append, cells_one]
theorem cells_length (l : List (Int × Int × Int)) : (cells l).length = l.length * 3 := by
  induction l with
  | nil => rfl
  | cons p l ih => simp only [cells, List.flatMap_cons, List.length_append, List.length_cons, List.length_nil] at ih ⊢; omega
theorem cells_get (l : List (Int × Int × Int)) (k : Nat) (p : Int × Int × Int) (h : l[k]? = some p) :
    (cells l)[k * 3]? = some (.int .i64 p.1) ∧ (cells l)[k * 3 + 1]? = some (.int .i64 p.2.1) ∧ (cells l)[k * 3 + 2]? = some (.int .i64 p.2.2) := by
  induction l generalizing k with
  | nil => simp at h
  | cons q l ih =>
    have e : cells (q :: l) = .int .i64 q.1 :: .int .i64 q.2.1 :: .int .i64 q.2.2 :: cells l := by simp [cells]
    rw [e]
    cases k with
    | zero => simp at h; subst h; simp
    | succ k =>
      have := ih k (by simpa using h)
      have e1 : (k + 1) * 3 = k * 3 + 1 + 1 + 1 := by omega
      rw [e1]
      simpa using this
section
variable {P : Program}
theorem append3 {ops : Array Oper} {rest : List Oper} {o : Oper} {a : Act} {Q : Exit → Act → World → Prop} (hgd : o.guard = none) (s x : Operand) (t : TypeId)
    (ho : o.op = .call { callee := .builtin .append, args := #[s, x], argTypes := #[t, t] })
    (B : Nat) (e e1 : TypeId) (i : TypeInfo) (z : Value) (bytes : Nat) (ht : P.underlying t = some (.slice e)) (hi : P.info? e = some i) (hz : i.zero = some z) (hsize : i.size = 3) (hby : i.bytes = bytes) (hzs : z.cells.size = 3)
    {w : World} {v : Value} {n : Nat} {xs : List Value} (hv : a.eval s = v) (h : w.ownsRow B e 3 v n xs) (hB : B ≤ w.heap.size)
    (u0 u1 u2 : Value) (h0 : u0.oneCell' = true) (h1 : u1.oneCell' = true) (h2 : u2.oneCell' = true) (hx : a.eval x = .slice (some ⟨w.heap.size, 0, none⟩) 1 1) (h63 : n + 1 ≤ maxLen) (hbytes : (n + 1) * bytes ≤ 140737488355328)
    (hK : ∀ v' w', w'.ownsRow B e 3 v' (n + 1) (xs ++ [u0, u1, u2]) → (w.alloc (.cells #[u0, u1, u2] e1)).grownBy w' v.ownBlock → wpList P ops Q rest (a.put o.dst v') w') : wpList P ops Q (o :: rest) a (w.alloc (.cells #[u0, u1, u2] e1)) := by
  have hc : ∀ j, (w.alloc (.cells #[u0, u1, u2] e1)).cell? ⟨w.heap.size, j, none⟩ = #[u0, u1, u2][j]? := fun j => World.cell?_alloc_mark w #[u0, u1, u2] e1 (0, 0) j
  refine wpList_append_own _ hgd s x t ho B e i z 3 bytes ht hi hz hsize hby hzs (by decide) v n xs hv (h.alloc _) ⟨w.heap.size, 0, none⟩ 1 1 [u0, u1, u2] hx rfl (fun j u hu => ?_) (fun u hu => ?_) h63 hbytes (by simp; omega) (fun v' w' h2 h3 _ => hK v' w' h2 h3)
  · rw [Addr.add_lit, Nat.zero_add, hc]
    rw [← hu]
    simp
  · simp at hu
    rcases hu with rfl | rfl | rfl <;> assumption
end
end Tri
end Go.Proofs.YtbmcmiggifknfaaDoor
