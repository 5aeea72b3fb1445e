/- ResMid: texts joined. -/
import Derived.Test.YtldgihlhioeipaaRows
import Derived.Test.YtldgihlhioeipaaBuf
import Derived.ProofKit
import Derived.Laws.Tables
import Derived.Laws.Rows
import Derived.Laws.ResultCell
import Derived.Deep.MidRow
import Derived.Below
/- Results of which the first lies in a block. -/
namespace Go.Proofs.Ytldgihlhioeipaa
open Go.RowKit
namespace Res
theorem row_tmp {P : Program} {fn : Func} {p u : Tmp} {ty : TypeId} (h : fn.results = #[.cell p ty, .tmp u]) (tmps : Array Value) (w : World) (g : Nat) (t : TypeId) (cs : Array Value) (fr : Nat × Nat) (d : TypeDesc)
    (hp : tmps.getD p undef = .pointer (some ⟨g, 0, none⟩)) (hg : w.heap[g]? = some (.cells cs t fr))
    (hu : P.underlying ty = some d) (hd : (match d with | .struct _ | .array _ _ => true | _ => false) = true) (hi : (P.info? ty).map (·.size) = some cs.size) :
    (results fn tmps).run P w = .ok (.tuple #[.agg cs, tmps.getD u undef]) w := by
  have hp' : tmps[p]?.getD undef = .pointer (some ⟨g, 0, none⟩) := by simpa using hp
  simp [results, h, hp', asAddr, run_loadVar_row w g t ty cs fr d hg hu hd hi]
theorem row_tmp2 {P : Program} {fn : Func} {p u v : Tmp} {ty : TypeId} (h : fn.results = #[.cell p ty, .tmp u, .tmp v]) (tmps : Array Value) (w : World) (g : Nat) (t : TypeId) (cs : Array Value) (fr : Nat × Nat) (d : TypeDesc)
    (hp : tmps.getD p undef = .pointer (some ⟨g, 0, none⟩)) (hg : w.heap[g]? = some (.cells cs t fr))
    (hu : P.underlying ty = some d) (hd : (match d with | .struct _ | .array _ _ => true | _ => false) = true) (hi : (P.info? ty).map (·.size) = some cs.size) :
    (results fn tmps).run P w = .ok (.tuple #[.agg cs, tmps.getD u undef, tmps.getD v undef]) w := by
  have hp' : tmps[p]?.getD undef = .pointer (some ⟨g, 0, none⟩) := by simpa using hp
  simp [results, h, hp', asAddr, run_loadVar_row w g t ty cs fr d hg hu hd hi]
end Res
end Go.Proofs.Ytldgihlhioeipaa

/- Parts of a block that is known whole: what is loaded out of it, what is stored into it. -/
set_option linter.unusedVariables false
namespace Go.Proofs.Ytldgihlhioeipaa
open Go.RowKit
namespace Mid
/-- A load out of the middle of a block, as an arm: 'with_reducible refine Mid.ldm ..', so that at another operation or world it fails at once. -/
theorem ldm {P : Program} {ops : Array Oper} {rest : List Oper} {op : Oper} {a : Act} {w : World} {Q : Exit → Act → World → Prop} (ty : TypeId) (x : Operand) (b o : Nat) (cs : List Value) (hc : w.rangeAt b o cs)
    (hgd : op.guard = none) (ho : op.op = .load ty x) (hx : a.eval x = .pointer (some ⟨b, o, none⟩)) (hd : ∃ d, P.underlying ty = some d ∧ d.isRow = true) (hi : (P.info? ty).map (·.size) = some cs.length)
    (h : wpList P ops Q rest (a.put op.dst (.agg cs.toArray)) w) : wpList P ops Q (op :: rest) a w := by
  obtain ⟨d, h1, h2⟩ := hd
  exact wpList_load_mid hgd ty x ho b o hx cs d hc h1 h2 hi h
theorem stm {P : Program} {ops : Array Oper} {rest : List Oper} {op : Oper} {a : Act} {w : World} {Q : Exit → Act → World → Prop} (ty : TypeId) (x y : Operand) (b o n : Nat) (cells : List Value) (ht : w.there b o n)
    (hgd : op.guard = none) (ho : op.op = .store ty x y) (hx : a.eval x = .pointer (some ⟨b, o, none⟩)) (hy : a.eval y = .agg cells.toArray) (hn : cells.length = n)
    (hi : (P.info? ty).map (·.size) = some cells.length) (h1 : ∀ v ∈ cells, v.oneCell' = true)
    (h : wpList P ops Q rest (a.put op.dst undef) (w.setCells b o cells)) : wpList P ops Q (op :: rest) a w := by
  subst hn
  exact wpList_store_mid hgd ty x y ho b o cells.toArray hx hy (by simpa using ht) (by simpa using hi) (all_oneCell_toArray h1) (by simpa using h)
/-- A load, a store of a whole block. -/
theorem ldr {P : Program} {ops : Array Oper} {rest : List Oper} {op : Oper} {a : Act} {w : World} {Q : Exit → Act → World → Prop} (ty : TypeId) (x : Operand) (b : Nat) (t : TypeId) (cs : Array Value) (hc : w.heap[b]? = some (.cells cs t (0, 0)))
    (hgd : op.guard = none) (ho : op.op = .load ty x) (hx : a.eval x = .pointer (some ⟨b, 0, none⟩)) (hd : ∃ d, P.underlying ty = some d ∧ d.isRow = true) (hi : (P.info? ty).map (·.size) = some cs.size)
    (h : wpList P ops Q rest (a.put op.dst (.agg cs)) w) : wpList P ops Q (op :: rest) a w := by
  obtain ⟨d, h1, h2⟩ := hd
  cases d with
  | struct fs => exact wpList_load_row hgd ty x ho b hx t cs (0, 0) _ hc h1 rfl hi h
  | array n e => exact wpList_load_row hgd ty x ho b hx t cs (0, 0) _ hc h1 rfl hi h
  | _ => cases h2
theorem wpList_on {P : Program} {ops : Array Oper} {rest : List Oper} {op : Oper} {a : Act} {w : World} {Q : Exit → Act → World → Prop} (hw : Region.wanted op (yielded ops a.tmps) = true)
    (h : ∀ K : Act → World → Prop, (∀ a w, wpList P ops Q rest a w → K a w) → op.wp P a w K Q) : wpList P ops Q (op :: rest) a w :=
  wpList_step fun K hK => by rw [if_pos hw]; exact h K hK
/-- The same, guarded or not. -/
theorem ldrg {P : Program} {ops : Array Oper} {rest : List Oper} {op : Oper} {a : Act} {w : World} {Q : Exit → Act → World → Prop} (ty : TypeId) (x : Operand) (b : Nat) (t : TypeId) (cs : Array Value) (hc : w.heap[b]? = some (.cells cs t (0, 0)))
    (ho : op.op = .load ty x) (hw : Region.wanted op (yielded ops a.tmps) = true) (hx : a.eval x = .pointer (some ⟨b, 0, none⟩)) (hd : ∃ d, P.underlying ty = some d ∧ d.isRow = true) (hi : (P.info? ty).map (·.size) = some cs.size)
    (h : wpList P ops Q rest (a.put op.dst (.agg cs)) w) : wpList P ops Q (op :: rest) a w := by
  obtain ⟨d, h1, h2⟩ := hd
  refine wpList_on hw fun K hK => ?_
  cases d with
  | struct fs => exact wp_load_row ty x ho b hx t cs (0, 0) _ hc h1 rfl hi (hK _ _ h)
  | array n e => exact wp_load_row ty x ho b hx t cs (0, 0) _ hc h1 rfl hi (hK _ _ h)
  | _ => cases h2
theorem str {P : Program} {ops : Array Oper} {rest : List Oper} {op : Oper} {a : Act} {w : World} {Q : Exit → Act → World → Prop} (ty : TypeId) (x y : Operand) (b : Nat) (t : TypeId) (old cells : Array Value) (hc : w.heap[b]? = some (.cells old t (0, 0)))
    (hgd : op.guard = none) (ho : op.op = .store ty x y) (hx : a.eval x = .pointer (some ⟨b, 0, none⟩)) (hy : a.eval y = .agg cells) (hi : (P.info? ty).map (·.size) = some cells.size) (hold : old.size = cells.size)
    (h1 : cells.all (·.oneCell') = true) (h : wpList P ops Q rest (a.put op.dst undef) (w.setRow b cells)) : wpList P ops Q (op :: rest) a w :=
  wpList_store_row hgd ty x y ho b cells hx hy t old hc hi hold h1 h
/-- A row with a part of it replaced. -/
def setMany (cs : Array Value) : Nat → List Value → Array Value
  | _, [] => cs
  | o, v :: r => setMany (cs.setIfInBounds o v) (o + 1) r
theorem heap_set (b : Nat) (t : TypeId) : ∀ (vs : List Value) (o : Nat) (w : World) (cs : Array Value), w.heap[b]? = some (.cells cs t (0, 0)) → (w.setCells b o vs).heap[b]? = some (.cells (setMany cs o vs) t (0, 0))
  | [], _, _, _, h => h
  | v :: r, o, w, cs, h => heap_set b t r (o + 1) _ _ (heap_setCell_same w b o cs t v h)
theorem other (b k : Nat) (hk : k ≠ b) : ∀ (vs : List Value) (o : Nat) (w : World), (w.setCells b o vs).heap[k]? = w.heap[k]?
  | [], _, _ => rfl
  | v :: r, o, w => (other b k hk r (o + 1) _).trans (Below.heap_setCell w _ _ k hk)
theorem below (B b : Nat) (A : World) (hb : B ≤ b) : ∀ (vs : List Value) (o : Nat) (w : World), Below B A w → Below B A (w.setCells b o vs)
  | [], _, _, h => h
  | v :: r, o, w, h => below B b A hb r (o + 1) _ (h.setCell (p := ⟨b, o, none⟩) hb v)
theorem size (b : Nat) : ∀ (vs : List Value) (o : Nat) (w : World), (w.setCells b o vs).heap.size = w.heap.size
  | [], _, _ => rfl
  | v :: r, o, w => (size b r (o + 1) _).trans (by simp [World.setCell])
theorem range {w : World} {b : Nat} {cs : Array Value} {t : TypeId} {fr : Nat × Nat} (h : w.heap[b]? = some (.cells cs t fr)) (o : Nat) (l : List Value) (hl : (cs.toList.drop o).take l.length = l) : w.rangeAt b o l := fun j v hj => by
  rw [cell_of_row _ _ _ _ _ _ h]
  have hjl : j < l.length := (List.getElem?_eq_some_iff.1 hj).1
  rw [← hl, List.getElem?_take, if_pos hjl, List.getElem?_drop] at hj
  simpa using hj
theorem there {w : World} {b : Nat} {cs : Array Value} {t : TypeId} (h : w.heap[b]? = some (.cells cs t (0, 0))) (o n : Nat) (hn : o + n ≤ cs.size) : w.there b o n := fun j hj => by
  refine ⟨?_, frozen_of_row w b (o + j) _ _ h⟩
  rw [cell_of_row _ _ _ _ _ _ h, Array.getElem?_eq_getElem (by omega)]
  rfl
theorem below_row {n₀ : Nat} {A w : World} (h : Below n₀ A w) (b : Nat) (cs : Array Value) (hb : n₀ ≤ b) : Below n₀ A (w.setRow b cs) :=
  ⟨by simpa using h.os, by simpa using h.tape, by simpa using h.output, by simpa [World.setRow] using h.size, fun k hk => (setRow_other w b k cs (by omega)).trans (h.block k hk)⟩
end Mid
end Go.Proofs.Ytldgihlhioeipaa
