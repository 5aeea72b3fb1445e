/- Records that are the same. -/
import Derived.Test.YtdcjpjdkamlheaaRecC
import Derived.Laws.StructEq
set_option linter.unusedVariables false
set_option linter.unusedSimpArgs false
namespace Go.Proofs.Ytdcjpjdkamlheaa
open Go.RowKit
namespace Rec
open Dice
set_option maxHeartbeats 4000000 in
set_option maxRecDepth 100000 in
theorem same14 (S0 S1 S2 S3 : ByteArray) (st fi num den er ru se : Int) {w : World} {b b' n c c' : Nat} {xs : List Int} (h : SR w b xs) (g : SR w b' xs) (hn : n = xs.length) (n9 : n ≤ 1000) (hc : n ≤ c) (hc' : n ≤ c') :
    Calls Try.prog 15 #[.agg #[.string S0, .string S1, .string S2, .string S3, .int .i64 st, .int .i64 fi, .int .i64 num, .int .i64 den, .int .i64 er, .int .i64 ru, .int .i64 se, .slice (some ⟨b, 0, none⟩) n c], .agg #[.string S0, .string S1, .string S2, .string S3, .int .i64 st, .int .i64 fi, .int .i64 num, .int .i64 den, .int .i64 er, .int .i64 ru, .int .i64 se, .slice (some ⟨b', 0, none⟩) n c']] w fun e w' => e = .returned (.bool true) ∧ Below w.heap.size w w' := by
  obtain ⟨w0, hw0e⟩ : ∃ w0, w0 = (w.alloc (.cells #[.string S0, .string S1, .string S2, .string S3, .int .i64 st, .int .i64 fi, .int .i64 num, .int .i64 den, .int .i64 er, .int .i64 ru, .int .i64 se, .slice (some ⟨b, 0, none⟩) n c] 36)).alloc (.cells #[.string S0, .string S1, .string S2, .string S3, .int .i64 st, .int .i64 fi, .int .i64 num, .int .i64 den, .int .i64 er, .int .i64 ru, .int .i64 se, .slice (some ⟨b', 0, none⟩) n c'] 36) := ⟨_, rfl⟩
  have eS : (w.alloc (.cells #[.string S0, .string S1, .string S2, .string S3, .int .i64 st, .int .i64 fi, .int .i64 num, .int .i64 den, .int .i64 er, .int .i64 ru, .int .i64 se, .slice (some ⟨b, 0, none⟩) n c] 36)).heap.size = w.heap.size + 1 := by simp
  have Y0 : Hid (Below w.heap.size w w0) := Lib.hid (by rw [hw0e]; exact (new_block _).alloc (by simp) _)
  have KA := Lib.hid (show w0.heap[w.heap.size]? = some (.cells #[.string S0, .string S1, .string S2, .string S3, .int .i64 st, .int .i64 fi, .int .i64 num, .int .i64 den, .int .i64 er, .int .i64 ru, .int .i64 se, .slice (some ⟨b, 0, none⟩) n c] 36 (0, 0)) by rw [hw0e]; exact (heap_alloc_old _ _ (by simp)).trans (heap_alloc_new w _))
  have KB := Lib.hid (show w0.heap[w.heap.size + 1]? = some (.cells #[.string S0, .string S1, .string S2, .string S3, .int .i64 st, .int .i64 fi, .int .i64 num, .int .i64 den, .int .i64 er, .int .i64 ru, .int .i64 se, .slice (some ⟨b', 0, none⟩) n c'] 36 (0, 0)) by rw [hw0e, ← eS]; exact heap_alloc_new _ _)
  have SI := Lib.hid (same_ints (h.below Y0.out) (g.below Y0.out) hn n9 hc hc')
  clear h g hn
  go_enter Try.func15, Try.ntmps15
  go_upto_region 1 with fail
  rw [← hw0e]
  clear hw0e eS
  obtain ⟨x0, x1, x2, x3, x4, x5, x6, x7, x8, x9, x10, x11⟩ := c12 KA.out
  obtain ⟨y0, y1, y2, y3, y4, y5, y6, y7, y8, y9, y10, y11⟩ := c12 KB.out
  go_wp2_with (go_at_call 30; refine SI.out.mono ?_; rintro e w9 ⟨rfl, hc9⟩)
  go_ret
  exact ⟨rfl, Buf.then_ Y0.out hc9⟩
end Rec
end Go.Proofs.Ytdcjpjdkamlheaa
