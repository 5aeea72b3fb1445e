/- The examples of the chapter on travel times. -/
import Derived.Test.YtlfliochpnekdaaTravelD
namespace Go.Proofs.Ytlfliochpnekdaa
open Go.RowKit
namespace Trav
theorem rt_sq {x : Int} (x0 : 0 ≤ x) (x1 : x ≤ 1073741824) : Root.rt (x * x) 32 = x := by
  have h1 : x * x ≤ 1073741824 * 1073741824 := Int.mul_le_mul x1 x1 x0 (by omega)
  obtain ⟨r0, r9, s0, s1⟩ := Root.rt_spec (x * x) (Int.mul_nonneg x0 x0) (by omega)
  have a := Root.sq_le_of r0 s0 x0
  have b : x < Root.rt (x * x) 32 + 1 := Classical.byContradiction fun hn => by
    have : (Root.rt (x * x) 32 + 1) * (Root.rt (x * x) 32 + 1) ≤ x * x := Int.mul_le_mul (by omega) (by omega) (by omega) x0
    omega
  omega
theorem ce_sq {x : Int} (x0 : 0 ≤ x) (x1 : x ≤ 1073741824) : Root.ce (x * x) = x := by
  unfold Root.ce
  rw [rt_sq x0 x1, if_neg (by omega)]
def SampleSaid (e : Ending) (w' : World) : Prop := ∃ b1 b2 : Nat, e = .returned (.agg #[.int .i64 1000, .slice (some ⟨b1, 0, none⟩) 3 3, .slice (some ⟨b2, 0, none⟩) 3 3]) ∧ TV w' 1000 b1 b2 3 [0, 150, 320] [0, 200, 400]
theorem ints3 {w : World} {g : Nat} {x y z : Int} {t : TypeId} (h : w.heap[g]? = some (.cells #[.int .i64 x, .int .i64 y, .int .i64 z] t (0, 0))) : Src.Ints w g [x, y, z] := by
  intro j hj
  have hj' : j < 3 := by simpa using hj
  obtain ⟨a, b, c⟩ := tcells h
  have : j = 0 ∨ j = 1 ∨ j = 2 := by omega
  rcases this with rfl | rfl | rfl
  · exact a
  · exact b
  · exact c
theorem blk_new (w : World) (o : Obj) : (w.alloc o).heap[w.heap.size]? = some o := heap_alloc_new _ _
theorem blk_newk (w : World) (o : Obj) {k : Nat} (h : w.heap.size = k) : (w.alloc o).heap[k]? = some o := by rw [← h]; exact blk_new w o
theorem blk_alloc {w : World} {g : Nat} {o : Obj} (h : w.heap[g]? = some o) (o' : Obj) : (w.alloc o').heap[g]? = some o := blk_b (new_block _) h
theorem tv_sample {w : World} {b1 b2 : Nat} {t : TypeId} (h1 : w.heap[b1]? = some (.cells #[.int .i64 0, .int .i64 150, .int .i64 320] t (0, 0))) (h2 : w.heap[b2]? = some (.cells #[.int .i64 0, .int .i64 200, .int .i64 400] t (0, 0))) : TV w 1000 b1 b2 3 [0, 150, 320] [0, 200, 400] where
  l1 := ints3 h1
  l2 := ints3 h2
  n1 := rfl
  n2 := rfl
  n3 := by decide
  n9 := by decide
  s1 := by decide
  s9 := by decide
  val := by
    intro k hk
    have : k = 0 ∨ k = 1 ∨ k = 2 := by omega
    rcases this with rfl | rfl | rfl <;> decide
  mono := by
    intro i j hij hj
    have h1 : i = 0 ∨ i = 1 ∨ i = 2 := by omega
    have h2 : j = 0 ∨ j = 1 ∨ j = 2 := by omega
    rcases h1 with rfl | rfl | rfl <;> rcases h2 with rfl | rfl | rfl <;> first | omega | decide
  e1 := (Array.getElem?_eq_some_iff.1 h1).1
  e2 := (Array.getElem?_eq_some_iff.1 h2).1
theorem sample_any (w : World) : Calls Try.prog 25 #[] w fun e w' => SampleSaid e w' ∧ Below w.heap.size w w' := by
  go_enter Try.func25, Try.ntmps25
  go_wp2
  refine bodyPost_ret (results_cell_row rfl _ _ w.heap.size _ _ _ _ rfl (blk_alloc (blk_alloc (blk_new w _) _) _) rfl (by rfl) rfl) rfl ⟨⟨_, _, rfl, tv_sample (blk_alloc (blk_newk (w.alloc _) _ (by simp)) _) (blk_newk ((w.alloc _).alloc _) _ (by simp))⟩, Buf.then_ (bel2 _ _) (new_block _)⟩
set_option maxHeartbeats 1000000 in
theorem awake_any (w : World) : Calls Try.prog 12 #[] w fun e w' => e = .returned (.bool true) ∧ Below w.heap.size w w' := by
  have r1 : Root.rt 2250000 32 = 1500 := rt_sq (x := 1500) (by decide) (by decide)
  have r2 : Root.ce 2250000 = 1500 := ce_sq (x := 1500) (by decide) (by decide)
  have r3 : Root.ce 4004001 = 2001 := ce_sq (x := 2001) (by decide) (by decide)
  have B1 := Lib.hid fun b1 b2 (w : World) (h : TV w 1000 b1 b2 3 [0, 150, 320] [0, 200, 400]) => between_ok 1000 b1 b2 3 3 3 _ _ 2250000 2250000 1 2 w h (by decide) (by decide) (by decide) (by rw [r2]; decide) (by rw [r1]; decide) (by rw [r2]; decide)
  have B2 := Lib.hid fun b1 b2 (w : World) (h : TV w 1000 b1 b2 3 [0, 150, 320] [0, 200, 400]) => between_beyond 1000 b1 b2 3 3 3 _ _ 0 4004001 w h (by decide) (by decide) (by decide) (by rw [r3]; decide)
  have D := Lib.hid fun b1 b2 (w : World) (h : TV w 1000 b1 b2 3 [0, 150, 320] [0, 200, 400]) => dist_any 1000 b1 b2 3 3 3 _ _ 180 1 2 w h (by decide) (by decide) (by
    intro j hj
    have : j = 0 ∨ j = 1 ∨ j = 2 := by omega
    rcases this with rfl | rfl | rfl <;> decide) (by
    intro j hj
    have : j = 0 ∨ j = 1 ∨ j = 2 := by omega
    rcases this with rfl | rfl | rfl <;> decide)
  have R := Lib.hid fun b1 b2 (w : World) (h : TV w 1000 b1 b2 3 [0, 150, 320] [0, 200, 400]) => Reach_yes 1000 b1 b2 3 3 3 _ _ w h
  clear r1 r2 r3
  go_enter Try.func12, Try.ntmps12
  go_wp2_with fail
  refine (sample_any _).mono ?_
  rintro e w1 ⟨⟨p1, p2, rfl, h1⟩, hb⟩
  go_wp2_with fail
  refine (B1.out _ _ _ h1).mono ?_
  rintro e w2 ⟨rfl, hc⟩
  have hW := Lib.hid (Buf.then_ hb hc)
  clear h1 hb hc
  go_wp2_with fail
  refine (sample_any _).mono ?_
  rintro e w3 ⟨⟨p3, p4, rfl, h1⟩, hb⟩
  go_wp2_with fail
  refine (B2.out _ _ _ h1).mono ?_
  rintro e w4 ⟨rfl, hc⟩
  replace hW := Lib.hid (Buf.then_ (Buf.then_ hW.out hb) hc)
  clear h1 hb hc
  go_wp2_with fail
  refine (sample_any _).mono ?_
  rintro e w5 ⟨⟨p5, p6, rfl, h1⟩, hb⟩
  go_wp2_with fail
  refine (D.out _ _ _ h1).mono ?_
  rintro e w6 ⟨hd, hc⟩
  obtain rfl : e = .returned (.tuple #[.int .i64 1, .int .i64 1999, .int .i64 0]) := by
    rcases hd with ⟨_, _, _, rfl⟩ | ⟨hx, _⟩
    · rfl
    · exact absurd hx (by decide)
  replace hW := Lib.hid (Buf.then_ (Buf.then_ hW.out hb) hc)
  clear h1 hb hc hd
  go_wp2_with fail
  refine (sample_any _).mono ?_
  rintro e w7 ⟨⟨p7, p8, rfl, h1⟩, hb⟩
  go_wp2_with fail
  refine (R.out _ _ _ h1).mono ?_
  rintro e w8 ⟨rfl, hc⟩
  replace hW := Lib.hid (Buf.then_ (Buf.then_ hW.out hb) hc)
  clear h1 hb hc
  go_wp2
  go_ret
  exact ⟨rfl, hW.out⟩
end Trav
end Go.Proofs.Ytlfliochpnekdaa
