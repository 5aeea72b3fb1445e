/- The examples of the chapter on travel times. -/
import Derived.Test.YtmmikihkfpkapaaTravelD
import Derived.Test.YtmmikihkfpkapaaTravelF
import Derived.Test.YtmmikihkfpkapaaTravelR
namespace Go.Proofs.Ytmmikihkfpkapaa
open Go.RowKit
namespace Trav
def SampleSaid (e : Ending) (w' : World) : Prop := ∃ b1 b2 : Nat, e = .returned (.agg #[.int .i64 1000, .slice (some ⟨b1, 0, none⟩) 3 3, .slice (some ⟨b2, 0, none⟩) 3 3]) ∧ TV w' 1000 b1 b2 3 [0, 150, 320] [0, 200, 400]
set_option maxRecDepth 100000 in
theorem sample_any (w : World) : Calls Try.prog 91 #[] w fun e w' => SampleSaid e w' ∧ Below w.heap.size w w' := by
  go_enter Try.func91, Try.ntmps91
  go_wp2
  refine bodyPost_ret (results_cell_row rfl _ _ w.heap.size _ _ _ _ rfl (blk_alloc (blk_alloc (blk_new w _) _) _) rfl (by rfl) rfl) rfl ⟨⟨_, _, rfl, tv_sample (blk_alloc (blk_newk (w.alloc _) _ (by simp)) _) (blk_newk ((w.alloc _).alloc _) _ (by simp))⟩, Buf.then_ (bel2 _ _) (new_block _)⟩
set_option maxHeartbeats 1000000 in
set_option maxRecDepth 100000 in
theorem awake_any (w : World) : Calls Try.prog 53 #[] w fun e w' => e = .returned (.bool true) ∧ Below w.heap.size w w' := by
  have r1 : Root.rt 2250000 32 = 1500 := rt_sq (x := 1500) (by decide) (by decide)
  have r2 : Root.ce 2250000 = 1500 := ce_sq (x := 1500) (by decide) (by decide)
  have r3 : Root.ce 4004001 = 2001 := ce_sq (x := 2001) (by decide) (by decide)
  have B1 := Lib.hid fun b1 b2 (w : World) (h : TV w 1000 b1 b2 3 [0, 150, 320] [0, 200, 400]) => between_ok 1000 b1 b2 3 3 3 _ _ 2250000 2250000 1 2 w h (by decide) (by decide) (by decide) (by rw [r2]; decide) (by rw [r1]; decide) (by rw [r2]; decide)
  have B2 := Lib.hid fun b1 b2 (w : World) (h : TV w 1000 b1 b2 3 [0, 150, 320] [0, 200, 400]) => between_beyond 1000 b1 b2 3 3 3 _ _ 0 4004001 w h (by decide) (by decide) (by decide) (by rw [r3]; decide)
  have D := Lib.hid fun b1 b2 (w : World) (h : TV w 1000 b1 b2 3 [0, 150, 320] [0, 200, 400]) => dist_any 1000 b1 b2 3 3 3 _ _ 180 1 2 w h (by decide) (by decide) (by
    intro j hj
    have : j = 0 ∨ j = 1 ∨ j = 2 := by omega
    rcases this with rfl | rfl | rfl <;> decide) (by
    intro j hj
    have : j = 0 ∨ j = 1 ∨ j = 2 := by omega
    rcases this with rfl | rfl | rfl <;> decide)
  have R := Lib.hid fun b1 b2 (w : World) (h : TV w 1000 b1 b2 3 [0, 150, 320] [0, 200, 400]) => Reach_yes 1000 b1 b2 3 3 3 _ _ w h
  clear r1 r2 r3
  go_enter Try.func53, Try.ntmps53
  go_wp2_with fail
  refine (sample_any _).mono ?_
  rintro e w1 ⟨⟨p1, p2, rfl, h1⟩, hb⟩
  go_wp2_with fail
  refine (B1.out _ _ _ h1).mono ?_
  rintro e w2 ⟨rfl, hc⟩
  have hW := Lib.hid (Buf.then_ hb hc)
  clear h1 hb hc
  go_wp2_with fail
  refine (sample_any _).mono ?_
  rintro e w3 ⟨⟨p3, p4, rfl, h1⟩, hb⟩
  go_wp2_with fail
  refine (B2.out _ _ _ h1).mono ?_
  rintro e w4 ⟨rfl, hc⟩
  replace hW := Lib.hid (Buf.then_ (Buf.then_ hW.out hb) hc)
  clear h1 hb hc
  go_wp2_with fail
  refine (sample_any _).mono ?_
  rintro e w5 ⟨⟨p5, p6, rfl, h1⟩, hb⟩
  go_wp2_with fail
  refine (D.out _ _ _ h1).mono ?_
  rintro e w6 ⟨hd, hc⟩
  obtain rfl : e = .returned (.tuple #[.int .i64 1, .int .i64 1999, .int .i64 0]) := by
    rcases hd with ⟨_, _, _, rfl⟩ | ⟨hx, _⟩
    · rfl
    · exact absurd hx (by decide)
  replace hW := Lib.hid (Buf.then_ (Buf.then_ hW.out hb) hc)
  clear h1 hb hc hd
  go_wp2_with fail
  refine (sample_any _).mono ?_
  rintro e w7 ⟨⟨p7, p8, rfl, h1⟩, hb⟩
  go_wp2_with fail
  refine (R.out _ _ _ h1).mono ?_
  rintro e w8 ⟨rfl, hc⟩
  replace hW := Lib.hid (Buf.then_ (Buf.then_ hW.out hb) hc)
  clear h1 hb hc
  go_wp2
  go_ret
  exact ⟨rfl, hW.out⟩
end Trav
end Go.Proofs.Ytmmikihkfpkapaa
