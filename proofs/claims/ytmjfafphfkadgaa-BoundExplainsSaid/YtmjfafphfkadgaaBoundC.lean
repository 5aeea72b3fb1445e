/- The example of the chapter on bounds. -/
import Derived.Test.YtmjfafphfkadgaaBoundB
import Derived.Test.YtmjfafphfkadgaaTravelF
namespace Go.Proofs.Ytmjfafphfkadgaa
open Go.RowKit
namespace Bound
theorem bv0 : Geo.BV 0 0 0 1000 0 0 := ⟨⟨by decide, by decide, by decide, by decide, by decide, by decide⟩, ⟨by decide, by decide, by decide, by decide, by decide, by decide⟩, by decide, by decide, by decide⟩
theorem pv0 : Geo.PV 0 0 0 := ⟨by decide, by decide, by decide, by decide, by decide, by decide⟩
theorem ph0 : PhV 0 0 0 1000 1010 1 := ⟨pv0, by decide, by decide, by decide, by decide, by decide⟩
theorem nr0 : Geo.near3 0 0 0 1000 0 0 0 0 0 = 0 * 0 := by decide
theorem fr0 : Geo.far3 0 0 0 1000 0 0 0 0 0 = 1000 * 1000 := by decide
theorem rn0 : Root.rt (Geo.near3 0 0 0 1000 0 0 0 0 0) 32 = 0 := by rw [nr0]; exact Trav.rt_sq (by decide) (by decide)
theorem rf0 : Root.ce (Geo.far3 0 0 0 1000 0 0 0 0 0) = 1000 := by rw [fr0]; exact Trav.ce_sq (by decide) (by decide)
set_option maxHeartbeats 2000000 in
theorem awake_any (w : World) : Calls Try.prog 18 #[] w fun e w' => e = .returned (.bool true) ∧ Below w.heap.size w w' := by
  have I := Lib.hid fun b1 b2 (w : World) (h : Trav.TV w 1000 b1 b2 3 [0, 150, 320] [0, 200, 400]) => interval_ok 1000 b1 b2 3 3 3 _ _ 0 0 0 1000 0 0 0 0 0 0 1 w h bv0 pv0 (by rw [rf0]; decide) (by rw [rn0]; decide) (by rw [rf0]; decide)
  have Z := Lib.hid fun b1 b2 (w : World) (h : Trav.TV w 1000 b1 b2 3 [0, 150, 320] [0, 200, 400]) => zone_ok 1000 b1 b2 3 3 3 _ _ 0 0 0 1000 0 0 0 0 0 1000 1010 1 0 1 w h bv0 ph0 (by rw [rf0]; decide) (by rw [rn0]; decide) (by rw [rf0]; decide) (by decide) (by decide) (by decide)
  go_enter Try.func18, Try.ntmps18
  have tv := Lib.hid (Trav.tv_sample (nb0 w (.cells #[.int .i64 0, .int .i64 150, .int .i64 320] 3) (.cells #[.int .i64 0, .int .i64 200, .int .i64 400] 3) (.cells #[.int .i64 1000, .slice (some ⟨w.heap.size, 0, none⟩) 3 3, .slice (some ⟨w.heap.size + 1, 0, none⟩) 3 3] 26) (.cells #[.int .i64 0, .int .i64 0, .int .i64 0, .int .i64 1000, .int .i64 0, .int .i64 0] 31)) (nb1 w (.cells #[.int .i64 0, .int .i64 150, .int .i64 320] 3) (.cells #[.int .i64 0, .int .i64 200, .int .i64 400] 3) (.cells #[.int .i64 1000, .slice (some ⟨w.heap.size, 0, none⟩) 3 3, .slice (some ⟨w.heap.size + 1, 0, none⟩) 3 3] 26) (.cells #[.int .i64 0, .int .i64 0, .int .i64 0, .int .i64 1000, .int .i64 0, .int .i64 0] 31)))
  have p1 := Lib.hid (nb2 w (.cells #[.int .i64 0, .int .i64 150, .int .i64 320] 3) (.cells #[.int .i64 0, .int .i64 200, .int .i64 400] 3) (.cells #[.int .i64 1000, .slice (some ⟨w.heap.size, 0, none⟩) 3 3, .slice (some ⟨w.heap.size + 1, 0, none⟩) 3 3] 26) (.cells #[.int .i64 0, .int .i64 0, .int .i64 0, .int .i64 1000, .int .i64 0, .int .i64 0] 31))
  have p2 := Lib.hid (nb3 w (.cells #[.int .i64 0, .int .i64 150, .int .i64 320] 3) (.cells #[.int .i64 0, .int .i64 200, .int .i64 400] 3) (.cells #[.int .i64 1000, .slice (some ⟨w.heap.size, 0, none⟩) 3 3, .slice (some ⟨w.heap.size + 1, 0, none⟩) 3 3] 26) (.cells #[.int .i64 0, .int .i64 0, .int .i64 0, .int .i64 1000, .int .i64 0, .int .i64 0] 31))
  have hA := Lib.hid (bel4 w (.cells #[.int .i64 0, .int .i64 150, .int .i64 320] 3) (.cells #[.int .i64 0, .int .i64 200, .int .i64 400] 3) (.cells #[.int .i64 1000, .slice (some ⟨w.heap.size, 0, none⟩) 3 3, .slice (some ⟨w.heap.size + 1, 0, none⟩) 3 3] 26) (.cells #[.int .i64 0, .int .i64 0, .int .i64 0, .int .i64 1000, .int .i64 0, .int .i64 0] 31))
  go_wp2_with fail
  generalize (((w.alloc (.cells #[.int .i64 0, .int .i64 150, .int .i64 320] 3)).alloc (.cells #[.int .i64 0, .int .i64 200, .int .i64 400] 3)).alloc (.cells #[.int .i64 1000, .slice (some ⟨w.heap.size, 0, none⟩) 3 3, .slice (some ⟨w.heap.size + 1, 0, none⟩) 3 3] 26)).alloc (.cells #[.int .i64 0, .int .i64 0, .int .i64 0, .int .i64 1000, .int .i64 0, .int .i64 0] 31) = w1 at *
  refine (I.out _ _ _ tv.out).mono ?_
  rintro r w2 ⟨rfl, hc⟩
  replace p1 := Lib.hid (Geo.blk_b hc p1.out)
  replace p2 := Lib.hid (Geo.blk_b hc p2.out)
  replace tv := Lib.hid (tv.out.below hc)
  replace hA := Lib.hid (Buf.then_ hA.out hc)
  clear hc I
  obtain ⟨k1, k2, k3, k4, k5, k6⟩ := Geo.cells6 p2.out
  obtain ⟨m1, m2, m3⟩ := tc p1.out
  go_wp2_with fail
  refine (Z.out _ _ _ tv.out).mono ?_
  rintro r w3 ⟨rfl, hc⟩
  replace hA := Lib.hid (Buf.then_ hA.out hc)
  clear hc Z p1 p2 tv k1 k2 k3 k4 k5 k6 m1 m2 m3
  go_wp2
  go_ret
  exact ⟨rfl, Buf.then_ hA.out (Geo.new_block _)⟩
end Bound
end Go.Proofs.Ytmjfafphfkadgaa
