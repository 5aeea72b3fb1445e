/- Roots of squares; the table of the examples in memory. -/
import Derived.Test.YtldgihlhioeipaaGreatTravAC
namespace Go.Proofs.YtldgihlhioeipaaGreat
open Go.RowKit
namespace Trav
theorem rt_sq {x : Int} (x0 : 0 ≤ x) (x1 : x ≤ 1073741824) : Root.rt (x * x) 32 = x := by
  have h1 : x * x ≤ 1073741824 * 1073741824 := Int.mul_le_mul x1 x1 x0 (by omega)
  obtain ⟨r0, r9, s0, s1⟩ := Root.rt_spec (x * x) (Int.mul_nonneg x0 x0) (by omega)
  have a := Root.sq_le_of r0 s0 x0
  have b : x < Root.rt (x * x) 32 + 1 := Classical.byContradiction fun hn => by
    have : (Root.rt (x * x) 32 + 1) * (Root.rt (x * x) 32 + 1) ≤ x * x := Int.mul_le_mul (by omega) (by omega) (by omega) x0
    omega
  omega
theorem ce_sq {x : Int} (x0 : 0 ≤ x) (x1 : x ≤ 1073741824) : Root.ce (x * x) = x := by
  unfold Root.ce
  rw [rt_sq x0 x1, if_neg (by omega)]
theorem ints3 {w : World} {g : Nat} {x y z : Int} {t : TypeId} (h : w.heap[g]? = some (.cells #[.int .i64 x, .int .i64 y, .int .i64 z] t (0, 0))) : Src.Ints w g [x, y, z] := by
  intro j hj
  have hj' : j < 3 := by simpa using hj
  obtain ⟨a, b, c⟩ := tcells h
  have : j = 0 ∨ j = 1 ∨ j = 2 := by omega
  rcases this with rfl | rfl | rfl
  · exact a
  · exact b
  · exact c
theorem blk_new (w : World) (o : Obj) : (w.alloc o).heap[w.heap.size]? = some o := heap_alloc_new _ _
theorem blk_newk (w : World) (o : Obj) {k : Nat} (h : w.heap.size = k) : (w.alloc o).heap[k]? = some o := by rw [← h]; exact blk_new w o
theorem blk_alloc {w : World} {g : Nat} {o : Obj} (h : w.heap[g]? = some o) (o' : Obj) : (w.alloc o').heap[g]? = some o := blk_b (new_block _) h
theorem tv_sample {w : World} {b1 b2 : Nat} {t : TypeId} (h1 : w.heap[b1]? = some (.cells #[.int .i64 0, .int .i64 150, .int .i64 320] t (0, 0))) (h2 : w.heap[b2]? = some (.cells #[.int .i64 0, .int .i64 200, .int .i64 400] t (0, 0))) : TV w 1000 b1 b2 3 [0, 150, 320] [0, 200, 400] where
  l1 := ints3 h1
  l2 := ints3 h2
  n1 := rfl
  n2 := rfl
  n3 := by decide
  n9 := by decide
  s1 := by decide
  s9 := by decide
  val := by
    intro k hk
    have : k = 0 ∨ k = 1 ∨ k = 2 := by omega
    rcases this with rfl | rfl | rfl <;> decide
  mono := by
    intro i j hij hj
    have h1 : i = 0 ∨ i = 1 ∨ i = 2 := by omega
    have h2 : j = 0 ∨ j = 1 ∨ j = 2 := by omega
    rcases h1 with rfl | rfl | rfl <;> rcases h2 with rfl | rfl | rfl <;> first | omega | decide
  e1 := (Array.getElem?_eq_some_iff.1 h1).1
  e2 := (Array.getElem?_eq_some_iff.1 h2).1
end Trav
end Go.Proofs.YtldgihlhioeipaaGreat
