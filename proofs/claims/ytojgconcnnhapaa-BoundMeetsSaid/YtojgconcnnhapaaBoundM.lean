/- Contract of Meets of package bound. -/
import Derived.Test.YtojgconcnnhapaaBoundB
namespace Go.Proofs.Ytojgconcnnhapaa
open Go.RowKit
namespace Bound
def Met (a b c d : Int) (r : Ending) : Prop := (max a c ≤ min b d ∧ r = .returned (.tuple #[.agg #[.int .i64 (max a c), .int .i64 (min b d)], .bool true])) ∨ (min b d < max a c ∧ r = .returned (.tuple #[.agg #[.int .i64 0, .int .i64 0], .bool false]))
set_option maxHeartbeats 1000000 in
theorem meets_any (a b c d : Int) (w : World) :
    Calls Try.prog 9 #[.agg #[.int .i64 a, .int .i64 b], .agg #[.int .i64 c, .int .i64 d]] w fun r w' => Met a b c d r ∧ Below w.heap.size w w' := by
  by_cases h : max a c ≤ min b d
  · have h' : ¬ (min b d < max a c) := by omega
    go_enter Try.func9, Try.ntmps9
    go_wp2
    refine bodyPost_ret (v := .tuple #[.agg #[.int .i64 (max a c), .int .i64 (min b d)], .bool true]) (by simp [results, Try.results9, go_sem]) rfl ⟨.inl ⟨h, rfl⟩, Buf.then_ (bel3 w _ _ _) (Geo.new_block _)⟩
  · have h' : min b d < max a c := by omega
    go_enter Try.func9, Try.ntmps9
    go_wp2
    refine bodyPost_ret (v := .tuple #[.agg #[.int .i64 0, .int .i64 0], .bool false]) (by simp [results, Try.results9, go_sem]) rfl ⟨.inr ⟨h', rfl⟩, Buf.then_ (bel3 w _ _ _) (Geo.new_block _)⟩
end Bound
end Go.Proofs.Ytojgconcnnhapaa
