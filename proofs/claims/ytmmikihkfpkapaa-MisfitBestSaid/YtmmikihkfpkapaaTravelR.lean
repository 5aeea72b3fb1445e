/- Contract of travel.Reach at a valid table. -/
import Derived.Test.YtmmikihkfpkapaaTravAC
namespace Go.Proofs.Ytmmikihkfpkapaa
open Go.RowKit
namespace Trav
set_option maxRecDepth 100000 in
theorem Reach_yes (s : Int) (b1 b2 n c1 c2 : Nat) (lo hi : List Int) (w : World) (h : TV w s b1 b2 n lo hi) :
    Calls Try.prog 93 #[.agg #[.int .i64 s, .slice (some ⟨b1, 0, none⟩) n c1, .slice (some ⟨b2, 0, none⟩) n c2]] w fun r w' => r = .returned (.int .i64 (s * ((n : Int) - 1))) ∧ Below w.heap.size w w' := by
  have V := Lib.hid (validate_yes s b1 b2 n c1 c2 lo hi _ (h.below (new_block (.cells #[.int .i64 s, .slice (some ⟨b1, 0, none⟩) n c1, .slice (some ⟨b2, 0, none⟩) n c2] 30))))
  have R := Lib.hid fun w => reach_yes s b1 b2 n c1 c2 w h.s1 h.s9 h.n3 h.n9
  have p1 : (w.alloc (.cells #[.int .i64 s, .slice (some ⟨b1, 0, none⟩) n c1, .slice (some ⟨b2, 0, none⟩) n c2] 30)).heap[w.heap.size]? = some (.cells #[.int .i64 s, .slice (some ⟨b1, 0, none⟩) n c1, .slice (some ⟨b2, 0, none⟩) n c2] 30 (0, 0)) := heap_alloc_new _ _
  replace p1 := Lib.hid p1
  clear h
  go_enter Try.func93, Try.ntmps93
  go_wp2_with fail
  refine V.out.mono ?_
  rintro e w1 ⟨rfl, hb⟩
  obtain ⟨x1, x2, x3⟩ := tcells (blk_b hb p1.out)
  replace hb := Lib.hid hb
  go_wp2_with fail
  refine (R.out _).mono ?_
  rintro e w2 ⟨rfl, hc⟩
  go_wp2
  go_ret
  exact ⟨rfl, Buf.then_ (Buf.then_ (new_block _) hb.out) hc⟩
end Trav
end Go.Proofs.Ytmmikihkfpkapaa
