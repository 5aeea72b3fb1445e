/- Contracts of the checksum's functions: crc.table, crc.Update, seismonetref06.run. -/
import Derived.Test.YtfebacopbacopaaDoorRows
import Derived.Test.YtfebacopbacopaaDoorMath
import Derived.Test.YtfebacopbacopaaDoorCrcMath
import Derived.Test.YtfebacopbacopaaDoorBuf
import Derived.ProofKit
import Derived.Outline
import Derived.Handy
import Derived.WalkSpells
import Derived.WalkLawsBesides
import Derived.Deep.QuietTactic
import Derived.BigQuiet
import Derived.Lib.Hide
import Derived.Laws.Tables
import Derived.Laws.Rows
namespace Go.Proofs.YtfebacopbacopaaDoor
open Go.RowKit
namespace Crc
theorem ret1 {k : IntKind} {a b : Int} (h : a = b) : Ending.returned (.int k a) = .returned (.int k b) := by rw [h]

section
variable {P : Program}
/-- A new variable of many cells. -/
theorem wpList_alloc_row {ops : Array Oper} {rest : List Oper} {o : Oper} {a : Act} {w : World} {Q : Exit → Act → World → Prop} (hgd : o.guard = none) (ty : TypeId) (ho : o.op = .alloc ty)
    (z : Value) (zs : Array Value) (hz : ((P.info? ty).bind (·.zero)) = some z) (hc : z.cells = zs)
    (h : wpList P ops Q rest (a.put o.dst (.pointer (some ⟨w.heap.size, 0, none⟩))) (w.alloc (.cells zs ty))) : wpList P ops Q (o :: rest) a w := by
  refine wpList_plain hgd fun K hK => ?_
  have hrun : (Instr.alloc ty true (.tuple #[])).run P w = .ok (.pointer (some ⟨w.heap.size, 0, none⟩)) (w.alloc (.cells zs ty)) := by
    cases hq : P.info? ty with
    | none => simp [hq] at hz
    | some i =>
      have hzi : i.zero = some z := by simpa [hq] using hz
      subst hc
      simp [Instr.alloc, zeroValue, typeInfo, hq, hzi, newVar, newRow, Result.andThen]
  unfold Oper.wp execOp
  simp only [ho, Sem.run_bind, hrun, Result.andThen_ok, Sem.run_pure]
  exact hK _ _ h
end

/-- The table, filled up to k. -/
def tabCells (k : Nat) : Array Value := ((List.range 256).map fun i => Value.int .u32 (if i < k then (Cm.tab i : Int) else 0)).toArray
theorem tabCells_size (k : Nat) : (tabCells k).size = 256 := by simp [tabCells]
theorem tabCells_at (k i : Nat) (h : i < 256) : (tabCells k)[i]? = some (.int .u32 (if i < k then (Cm.tab i : Int) else 0)) := by
  simp [tabCells, h]
theorem tabCells_full (i : Nat) (h : i < 256) : (tabCells 256)[i]? = some (.int .u32 (Cm.tab i : Int)) := by
  rw [tabCells_at 256 i h, if_pos h]
theorem tabCells_set (k : Nat) : (tabCells k).setIfInBounds k (.int .u32 (Cm.tab k : Int)) = tabCells (k + 1) := by
  apply Array.ext (by simp [tabCells])
  intro i h1 h2
  have hi : i < 256 := by simpa [tabCells] using h2
  rw [Array.getElem_setIfInBounds (by rw [tabCells_size]; exact hi)]
  simp only [tabCells, List.getElem_toArray, List.getElem_map, List.getElem_range]
  by_cases e : k = i
  · subst e; simp
  · have : (i < k + 1) = (i < k) := by simp; omega
    simp [e, this]
theorem tabCells_one (k : Nat) : (tabCells k).all (·.oneCell') = true := by
  rw [Array.all_eq_true_iff_forall_mem]
  intro v hv
  simp [tabCells] at hv
  obtain ⟨i, _, rfl⟩ := hv
  rfl
theorem below_setRow {B : Nat} {a w : World} (h : Below B a w) {g : Nat} (hg : B ≤ g) (cs : Array Value) : Below B a (w.setRow g cs) :=
  ⟨h.os, h.tape, h.output, by rw [size_setRow]; exact h.size, fun k hk => by rw [setRow_other _ _ _ _ (by omega)]; exact h.block k hk⟩
theorem zeroT : ((Tryd.prog.info? 133).bind (·.zero)) = some (.agg (tabCells 0)) := by kernel_rfl
theorem sizeT : (Tryd.prog.info? 133).map (·.size) = some 256 := by kernel_rfl

theorem u32_and1 (x : Nat) (h : x < 4294967296) : bits .and .u32 (x : Int) 1 = ((x % 2 : Nat) : Int) := by
  have := u32_and_nat x 1 h (by decide)
  rw [nat_mask1] at this
  exact this
theorem u32_xorP (x : Nat) (h : x < 4294967296) : bits .xor .u32 (x : Int) 3988292384 = ((x ^^^ 3988292384 : Nat) : Int) := u32_xor_nat x 3988292384 h (by decide)

set_option maxHeartbeats 800000 in
set_option maxRecDepth 100000 in
theorem table_any (w : World) : Calls Tryd.prog 85 #[] w fun e w' => e = .returned (.agg (tabCells 256)) ∧ Below w.heap.size w w' := by
  go_enter Tryd.func85, Tryd.ntmps85
  go_wp2_with (refine wpList_alloc_row rfl 133 rfl (.agg (tabCells 0)) (tabCells 0) zeroT rfl ?_)
  have hT : ((w.alloc (.cells (tabCells 0) 133)).alloc (.cells (tabCells 0) 133)).heap[w.heap.size + 1]? = some (.cells (tabCells 0) 133 (0, 0)) := heap_alloc2_new w _ _
  have hR : ((w.alloc (.cells (tabCells 0) 133)).alloc (.cells (tabCells 0) 133)).heap[w.heap.size]? = some (.cells (tabCells 0) 133 (0, 0)) := heap_alloc2_old w _ _
  have HT := Lib.hid hT
  have HR := Lib.hid hR
  clear hT hR
  go_loopw [5] (fun i wr => ∃ k : Nat, k ≤ 256 ∧ i = .int .i64 k ∧ wr.heap[w.heap.size + 1]? = some (.cells (tabCells k) 133 (0, 0)) ∧ wr.heap[w.heap.size]? = some (.cells (tabCells 0) 133 (0, 0)) ∧ Below w.heap.size w wr ∧ w.heap.size + 2 ≤ wr.heap.size) (fun i _ => (256 - intOf i).toNat)
  case atStart => exact ⟨0, by omega, rfl, HT.out, HR.out, ((Below.refl _ _).alloc (Nat.le_refl _) _).alloc (by simp) _, by simp⟩
  case round =>
    obtain ⟨k, hk, rfl, hT, hR, hbel, hsz⟩ := hrel
    have HT := Lib.hid hT
    have HR := Lib.hid hR
    clear hT hR
    by_cases hlt : k < 256
    · have hcell : wr.cell? ⟨w.heap.size + 1, k, none⟩ = some (.int .u32 0) := by
        rw [cell_of_row wr _ k _ _ _ HT.out, tabCells_at k k hlt, if_neg (by omega)]
      have hfree : wr.frozen? ⟨w.heap.size + 1, k, none⟩ = false := frozen_of_row wr _ k _ _ HT.out
      go_wp2_with fail
      go_loop [3, 10] (fun x j => ∃ n : Nat, n ≤ 8 ∧ j = .int .i64 n ∧ x = .int .u32 (Cm.stN n k : Nat)) (fun _ j => (8 - intOf j).toNat)
      case atStart => exact ⟨0, by omega, rfl, rfl⟩
      case round =>
        obtain ⟨n, hn, rfl, rfl⟩ := hrel
        by_cases hlt8 : n < 8
        · obtain ⟨x, hx⟩ : ∃ x, x = Cm.stN n k := ⟨_, rfl⟩
          rw [← hx]
          have hxl : x < 4294967296 := by rw [hx]; exact Cm.stN_lt n (by omega)
          have Hx := Lib.hid hx
          clear hx
          have e1 := u32_and1 x hxl
          have e2 := u32_xorP (x / 2) (by omega)
          have d2 : ((x / 2 : Nat) : Int) = (x : Int) / 2 := by omega
          rw [d2] at e2
          by_cases hodd : x % 2 = 1
          · rw [hodd] at e1
            have Ho := Lib.hid hodd
            clear hodd
            go_wp2
            go_round
            case rel => exact ⟨n + 1, by omega, by go_num, by rw [Cm.stN_succ, ← Hx.out, Cm.st_odd Ho.out]⟩
            case measure => simp [intOf]; omega
          · have hev : x % 2 = 0 := by omega
            rw [hev] at e1
            have Ho := Lib.hid hev
            clear hodd hev
            go_wp2
            go_round
            case rel => exact ⟨n + 1, by omega, by go_num, by rw [Cm.stN_succ, ← Hx.out, Cm.st_ev Ho.out, d2]⟩
            case measure => simp [intOf]; omega
        · obtain rfl : n = 8 := by omega
          go_wp2
          go_roundw
          case rel => 
            refine ⟨k + 1, by omega, by go_num, ?_, ?_, hbel.setCell (by simp) _, by simpa using hsz⟩
            · rw [heap_setCell_same wr _ k _ _ _ HT.out, ← tabCells_set k]; rfl
            · rw [heap_setCell_other _ _ _ _ (by simp)]; exact HR.out
          case measure => simp [intOf]; omega
    · obtain rfl : k = 256 := by omega
      go_wp2_with (first | (refine wpList_load_row rfl 133 _ rfl _ rfl 133 (tabCells 256) (0, 0) _ HT.out Tryd.underlying133 rfl (by rw [tabCells_size]; exact sizeT) ?_) | (refine wpList_store_row rfl 133 _ _ rfl w.heap.size (tabCells 256) rfl rfl 133 (tabCells 0) HR.out (by rw [tabCells_size]; exact sizeT) (by rw [tabCells_size, tabCells_size]) (tabCells_one _) ?_))
      exact bodyPost_ret (results_cell_row rfl _ _ w.heap.size 133 (tabCells 256) (0, 0) _ rfl (setRow_heap _ _ _ _ _ _ HR.out) Tryd.underlying133 rfl (by rw [tabCells_size]; exact sizeT)) rfl ⟨rfl, below_setRow hbel (Nat.le_refl _) _⟩
end Crc
end Go.Proofs.YtfebacopbacopaaDoor
