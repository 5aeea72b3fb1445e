/- sane of layer 1. -/
import Derived.Test.YtnoggdhljijhpaaUtcH
import Derived.Laws.StructEq
set_option linter.unusedVariables false
set_option linter.unusedSimpArgs false
namespace Go.Proofs.Ytnoggdhljijhpaa
open Go.RowKit
namespace Utc
theorem ro_new (w : World) (L : List Int) (o : Obj) (t : TypeId) (n : Nat) (hn : n = L.length) (ho : o = .cells (L.map (Value.int .i64)).toArray t) (h : n ≤ 1000) : Ro (w.alloc o) (some ⟨w.heap.size, 0, none⟩) n n L := by
  subst hn ho
  refine ⟨rfl, Nat.le_refl _, by omega, fun h0 => ⟨_, 0, rfl, (by have : (w.alloc (.cells (L.map (Value.int .i64)).toArray t)).heap.size = w.heap.size + 1 := (Array.size_push ..); omega), fun j x hx => ?_⟩⟩
  have hb := heap_alloc_new w (.cells (L.map (Value.int .i64)).toArray t)
  rw [Nat.zero_add, cell_of_row _ _ _ _ _ _ hb]
  simp [hx]
theorem vt1 : VT [86400] := ⟨by decide, fun i hi => by
  obtain rfl : i = 0 := by simp at hi; omega
  decide, fun i j h1 h2 => by simp at h2; omega⟩
theorem ex_civ : civ (cb [86400] (86400000000 / 1000000)) (cs [86400] (86400000000 / 1000000)) (86400000000 % 1000000) = .agg #[.int .i64 1970, .int .i64 1, .int .i64 1, .int .i64 23, .int .i64 59, .int .i64 60, .int .i64 0] := by rfl
theorem ex_from : civ (cb [86400] (86401000000 / 1000000)) (cs [86400] (86401000000 / 1000000)) (86401000000 % 1000000) = .agg #[.int .i64 1970, .int .i64 1, .int .i64 2, .int .i64 0, .int .i64 0, .int .i64 0, .int .i64 0] := by rfl
theorem ex_fm : fm [86400] 86400000007 = [49, 57, 55, 48, 45, 48, 49, 45, 48, 49, 84, 50, 51, 58, 53, 57, 58, 54, 48, 46, 48, 48, 48, 48, 48, 55, 90] := by decide +kernel
set_option maxRecDepth 100000 in
set_option maxHeartbeats 8000000 in
theorem sane_any (w : World) :
    Calls Try.prog 11 #[] w fun e w' => e = .returned (.bool true) ∧ Below w.heap.size w w' := by
  have b0 := Lib.hid (Dice.new_block (w := w) (.cells #[.int .i64 86400] 3))
  have R0 := Lib.hid fun wx (hb : Below (w.alloc (.cells #[.int .i64 86400] 3)).heap.size (w.alloc (.cells #[.int .i64 86400] 3)) wx) => (ro_new w [86400] (.cells #[.int .i64 86400] 3) 3 1 rfl rfl (by omega)).below hb
  have T := Lib.hid fun wx hb => toCivil_any (R0.out wx hb) vt1 86400000000 (by omega) (by omega)
  have F := Lib.hid fun wx hb => back_any (R0.out wx hb) vt1 86401000000 (by omega) (by omega)
  have M := Lib.hid fun wx hb => format_any (R0.out wx hb) vt1 86400000007 (by omega) (by omega)
  rw [ex_civ] at T
  rw [ex_from] at F
  rw [ex_fm] at M
  go_enter Try.func11, Try.ntmps11
  go_wp2_with fail
  obtain ⟨w0, hw0⟩ : ∃ w0, w0 = w.alloc (.cells #[.int .i64 86400] 3) := ⟨_, rfl⟩
  obtain ⟨z0, hz0⟩ : ∃ z0, z0 = w.heap.size := ⟨_, rfl⟩
  rw [← hw0] at T F M b0
  have T0 := T.out w0 (Below.refl _ _)
  rw [← hz0] at T0 F M
  rw [← hw0, ← hz0]
  refine T0.mono ?_
  clear T0 T R0
  rintro e w1 ⟨rfl, b1⟩
  replace b1 := Lib.hid b1
  replace hw0 := Lib.hid hw0
  replace hz0 := Lib.hid hz0
  go_upto_region 3 with (first | ((with_reducible refine Mid.str 39 (.tmp 2) (.tmp 12) w1.heap.size 39 #[.int .i64 0, .int .i64 0, .int .i64 0, .int .i64 0, .int .i64 0, .int .i64 0, .int .i64 0] #[.int .i64 1970, .int .i64 1, .int .i64 1, .int .i64 23, .int .i64 59, .int .i64 60, .int .i64 0] (heap_alloc_new w1 _) ?_ ?_ ?_ ?_ ?_ ?_ ?_ ?_); (· rfl); (· rfl); (· first | rfl | simp [Act.eval]); (· first | rfl | simp [Act.eval]); (· kernel_rfl); (· rfl); (· simp [Value.oneCell'])) | fail)
  obtain ⟨w2, hw2⟩ : ∃ w2, w2 = (w1.alloc (.cells #[.int .i64 0, .int .i64 0, .int .i64 0, .int .i64 0, .int .i64 0, .int .i64 0, .int .i64 0] 39)).setRow w1.heap.size #[.int .i64 1970, .int .i64 1, .int .i64 1, .int .i64 23, .int .i64 59, .int .i64 60, .int .i64 0] := ⟨_, rfl⟩
  rw [← hw2]
  have P0 : Hid (w2.heap[w1.heap.size]? = some (.cells #[.int .i64 1970, .int .i64 1, .int .i64 1, .int .i64 23, .int .i64 59, .int .i64 60, .int .i64 0] 39 (0, 0))) := Lib.hid (by rw [hw2]; exact setRow_heap _ _ _ _ _ _ (heap_alloc_new w1 _))
  have B2 : Hid (Below w0.heap.size w0 w2) := Lib.hid (by rw [hw2]; exact Mid.below_row (b1.out.alloc b1.out.size _) _ _ b1.out.size)
  have zs : w1.heap.size < w2.heap.size := (Array.getElem?_eq_some_iff.1 P0.out).1
  generalize w1.heap.size = z at *
  replace hw2 := Lib.hid hw2
  go_wp2_with fail
  refine (F.out w2 B2.out).mono ?_
  rintro e w3 ⟨rfl, b3⟩
  replace P0 := Lib.hid ((b3.block z zs).trans P0.out)
  replace zs : z < w3.heap.size := Nat.lt_of_lt_of_le zs b3.size
  replace B2 := Lib.hid (Buf.then_ B2.out b3)
  clear b3 F
  go_wp2_with fail
  refine (M.out w3 B2.out).mono ?_
  rintro e w4 ⟨rfl, b4⟩
  replace P0 := Lib.hid ((b4.block z zs).trans P0.out)
  replace B2 := Lib.hid (Buf.then_ B2.out b4)
  clear b4 M zs
  go_wp2_with (first | ((with_reducible refine Mid.ldrg 39 (.tmp 2) z 39 #[.int .i64 1970, .int .i64 1, .int .i64 1, .int .i64 23, .int .i64 59, .int .i64 60, .int .i64 0] P0.out ?_ ?_ ?_ ?_ ?_ ?_); (· rfl); (· rfl); (· first | rfl | simp [Act.eval]); (· exact ⟨_, rfl, rfl⟩); (· kernel_rfl)) | fail)
  go_ret
  exact ⟨rfl, Buf.then_ b0.out B2.out⟩
end Utc
end Go.Proofs.Ytnoggdhljijhpaa
