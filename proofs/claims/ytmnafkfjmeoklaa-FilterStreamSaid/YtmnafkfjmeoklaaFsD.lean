/- Contract of ValidFeed. -/
import Derived.Test.YtmnafkfjmeoklaaFsC
set_option linter.unusedVariables false
namespace Go.Proofs.Ytmnafkfjmeoklaa
open Go.RowKit Wi Dice
namespace Fil
set_option maxRecDepth 100000 in
set_option maxHeartbeats 2000000 in
theorem validFeed_any {w : World} {v u : Value} {n s m : Nat} {T X : Nat → Int} {fac num : Int} (h : SV w v n T) (hu : SV w u m X) (fg : FG n T fac s) (hm : m < n) (hX : ∀ j, j < m → -1073741823 ≤ X j ∧ X j ≤ 1073741823) (m0 : (m : Int) ≤ num) (m1 : num ≤ 18014398509481984) :
    Calls Try.prog 31 #[.agg #[v, .int .i64 fac, .int .i64 s, u, .int .i64 num]] w fun e w' => e = .returned (.bool true) ∧ Below w.heap.size w w' := by
  have V := Lib.hid fun w' (hb : Below w.heap.size w w') => valid_yes (h.below hb) fg
  have n2 := fg.n2
  have R := Lib.hid fun w' (hb : Below w.heap.size w w') => inRange_any (hu.below hb) (by omega) hX
  have W0 := Lib.hid (new_block (w := w) (.cells #[v, .int .i64 fac, .int .i64 s, u, .int .i64 num] 45))
  have B0 := Lib.hid (heap_alloc_new w (.cells #[v, .int .i64 fac, .int .i64 s, u, .int .i64 num] 45))
  obtain ⟨a, c, rfl, _, _, _⟩ := h
  obtain ⟨a', c', rfl, _, _, _⟩ := hu
  have hlt : ((m : Int) < (n : Int)) := by omega
  clear fg hX
  go_enter Try.func31, Try.ntmps31
  go_wp2_with fail
  refine (V.out _ W0.out).mono ?_
  rintro e w1 ⟨rfl, hb⟩
  replace B0 := Lib.hid (hop B0.out hb)
  replace W0 := Lib.hid (Buf.then_ W0.out hb)
  clear hb V
  obtain ⟨y0, y1, y2, y3, y4⟩ := cells5 B0.out
  go_wp2_with fail
  refine (R.out _ W0.out).mono ?_
  rintro e w2 ⟨rfl, hb⟩
  replace B0 := Lib.hid (hop B0.out hb)
  replace W0 := Lib.hid (Buf.then_ W0.out hb)
  clear hb R y0 y1 y2 y3 y4
  obtain ⟨y0, y1, y2, y3, y4⟩ := cells5 B0.out
  go_wp2_with (go_at_call 27; refine (within_yes _ _ _ _ (by omega) (by omega)).mono ?_; rintro e w2 ⟨rfl, q, rfl⟩)
  go_ret
  exact ⟨rfl, Buf.below_drewN W0.out _⟩
/-- The feed in memory: the last samples of p, and the number of the next. -/
structure Fed (w : World) (v u : Value) (n p : Nat) (T X : Nat → Int) : Prop where
  taps : SV w v n T
  past : SV w u (kept n p) (fun j => X (p - kept n p + j))
theorem Fed.below {w w' : World} {v u : Value} {n p : Nat} {T X : Nat → Int} (h : Fed w v u n p T X) (hb : Below w.heap.size w w') : Fed w' v u n p T X := ⟨h.taps.below hb, h.past.below hb⟩
end Fil
end Go.Proofs.Ytmnafkfjmeoklaa
