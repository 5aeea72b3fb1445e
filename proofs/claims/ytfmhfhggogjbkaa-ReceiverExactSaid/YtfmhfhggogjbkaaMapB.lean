/- A map of bools by ints. -/
import Derived.Test.YtfmhfhggogjbkaaDiceN
import Derived.Maps.OwnOps
import Derived.Maps.Views
import Derived.Maps.OwnSet
set_option linter.unusedVariables false
set_option linter.unusedSimpArgs false
namespace Go.Proofs.Ytfmhfhggogjbkaa
open Go.RowKit Dice
namespace Mb
/-- A map of bools that reads as a function. -/
def MapB (w : World) (b n : Nat) (f : Int → Bool) : Prop :=
  ∃ D : DataW Unit, w.ownsMap Try.prog 3 (plainElem Try.prog 4) b n D ∧ ∀ k : Int, D.atKey (.int .i64 k) (.lit (.bool false)) = .lit (.bool (f k))
theorem MapB.made (w : World) : MapB (w.alloc (.map #[] 0)) w.heap.size 0 (fun _ => false) := ⟨_, World.ownsMap_made w _ _ _, fun k => rfl⟩
theorem MapB.kept {w w' : World} {b n : Nat} {f : Int → Bool} {row : Option Nat} (h : MapB w b n f) (hg : w.grownBy w' row) (hne : some b ≠ row) : MapB w' b n f := by
  obtain ⟨D, h1, h2⟩ := h
  exact ⟨D, h1.kept hg hne, h2⟩
theorem MapB.below {w w' : World} {b n : Nat} {f : Int → Bool} (h : MapB w b n f) (hb : Below w.heap.size w w') : MapB w' b n f := h.kept (row := none) (grown_of_below hb) (by simp)
theorem MapB.ext {w : World} {b n : Nat} {f g : Int → Bool} (h : MapB w b n f) (e : ∀ k, f k = g k) : MapB w b n g := by
  obtain ⟨D, h1, h2⟩ := h
  exact ⟨D, h1, fun k => (h2 k).trans (by rw [e])⟩
theorem MapB.lt {w : World} {b n : Nat} {f : Int → Bool} (h : MapB w b n f) : b < w.heap.size := by
  obtain ⟨D, h1, h2⟩ := h
  exact h1.lt
theorem plain_bool_inv {v : Value} {x : Bool} {ps : List MemPlace} (h : plainElem (H := Unit) Try.prog 4 v = some (.lit (.bool x), ps)) : v = .bool x := by
  unfold plainElem at h
  rw [Try.underlying4] at h
  cases v <;> simp at h
  obtain ⟨h, _⟩ := h
  rw [h]
theorem MapB.lookup {w : World} {b n : Nat} {f : Int → Bool} (h : MapB w b n f) (k : Int) (hk : (Lit.int .i64 k).wf = true) : (Instr.lookup 63 (.map (some b)) (.int .i64 k) false).run Try.prog w = .ok (.bool (f k)) w := by
  obtain ⟨D, h1, h2⟩ := h
  obtain ⟨v, ps, hrun, hv⟩ := h1.lookup (Maps.int_keyed Try.underlying3) Try.underlying63 (Try.zeroValue4 w) (plainElem_bool Try.underlying4 false) (Maps.keyOf_int_mk Try.underlying3 hk)
  rw [h2 k] at hv
  rw [plain_bool_inv hv] at hrun
  exact hrun
theorem wpList_put {w : World} {ops : Array Oper} {rest : List Oper} {o : Oper} {a : Act} {Q : Exit → Act → World → Prop} (hgd : o.guard = none) (m x v : Operand) (ho : o.op = Op.mapUpdate 63 m x v)
    (b n : Nat) (f : Int → Bool) (hm : a.eval m = .map (some b)) (h : MapB w b n f) (hn : n < 1000000) (k : Int) (c : Bool) (hx : a.eval x = .int .i64 k) (hv : a.eval v = .bool c) (hk : (Lit.int .i64 k).wf = true)
    (hK : ∀ w', Hid (MapB w' b (n + 1) (fun j => if j = k then c else f j)) → Hid (w.grownBy w' (some b)) → wpList Try.prog ops Q rest (a.put o.dst undef) w') : wpList Try.prog ops Q (o :: rest) a w := by
  obtain ⟨D, h1, h2⟩ := h
  refine wpList_mapUpdate_own w hgd m x v _ ho 3 4 (Maps.int_keyed Try.underlying3) Try.underlying63 _ b n D hm h1 (by unfold maxLen; omega) _ _ (.int .i64 k) hx hv (Maps.keyOf_int_mk Try.underlying3 hk) (.lit (.bool c)) [] (plainElem_bool Try.underlying4 c) fun w' h3 h4 => ?_
  refine hK w' (Lib.hid ⟨_, h3, fun j => ?_⟩) (Lib.hid h4)
  show _ = DataW.lit (Lit.bool (if j = k then c else f j))
  by_cases e : j = k
  · subst e
    rw [if_pos rfl]
    exact Maps.atKey_put_same (k := .int .i64 j) h1.isMap (show WideAt.IsKeyLit (.int .i64 j) from trivial) _ _
  · rw [if_neg e]
    exact (Maps.atKey_put_other (fun e2 => e (by injection e2)) _ _).trans (h2 j)
/-- The same as one operation. -/
theorem wp_put {w : World} {o : Oper} {a : Act} {K : Act → World → Prop} {Q : Exit → Act → World → Prop} (m x v : Operand) (ho : o.op = Op.mapUpdate 63 m x v)
    (b n : Nat) (f : Int → Bool) (hm : a.eval m = .map (some b)) (h : MapB w b n f) (hn : n < 1000000) (k : Int) (c : Bool) (hx : a.eval x = .int .i64 k) (hv : a.eval v = .bool c) (hk : (Lit.int .i64 k).wf = true)
    (hK : ∀ w', Hid (MapB w' b (n + 1) (fun j => if j = k then c else f j)) → Hid (w.grownBy w' (some b)) → K (a.put o.dst undef) w') : o.wp Try.prog a w K Q := by
  obtain ⟨D, h1, h2⟩ := h
  obtain ⟨w', hrun, h3, h4⟩ := h1.update (Maps.int_keyed Try.underlying3) Try.underlying63 (by unfold maxLen; omega) (Maps.keyOf_int_mk Try.underlying3 hk) (plainElem_bool Try.underlying4 c)
  unfold Oper.wp
  simp [execOp, ho, hm, hx, hv, hrun, Result.andThen]
  refine hK w' (Lib.hid ⟨_, h3, fun j => ?_⟩) (Lib.hid h4)
  show _ = DataW.lit (Lit.bool (if j = k then c else f j))
  by_cases e : j = k
  · subst e
    rw [if_pos rfl]
    exact Maps.atKey_put_same (k := .int .i64 j) h1.isMap (show WideAt.IsKeyLit (.int .i64 j) from trivial) _ _
  · rw [if_neg e]
    exact (Maps.atKey_put_other (fun e2 => e (by injection e2)) _ _).trans (h2 j)
theorem wf_small {k : Int} (h0 : -1000000000 ≤ k) (h9 : k ≤ 1000000000) : (Lit.int .i64 k).wf = true := by
  simp [Lit.wf, IntKind.min, IntKind.max, IntKind.signed, IntKind.bits]
  omega
end Mb
end Go.Proofs.Ytfmhfhggogjbkaa
