/- Contract of SameFeed. -/
import Derived.Test.YtmnafkfjmeoklaaFsD
set_option linter.unusedVariables false
namespace Go.Proofs.Ytmnafkfjmeoklaa
open Go.RowKit Wi Dice
namespace Fil
theorem refsame_any {w : World} {v u : Value} {n : Nat} {fac s : Int} {X : Nat → Int} (h : SV w v n X) (hx : SV w u n X) (hn : n ≤ 1000000) :
    Calls Try.prog 12 #[.agg #[v, .int .i64 fac, .int .i64 s], .agg #[u, .int .i64 fac, .int .i64 s]] w fun e w' => e = .returned (.bool true) ∧ Below w.heap.size w w' := by
  have W0 := Lib.hid (((new_block (w := w) (.cells #[v, .int .i64 fac, .int .i64 s] 33)).alloc (by simp) (.cells #[u, .int .i64 fac, .int .i64 s] 33)))
  have S := Lib.hid fun w' (hb : Below w.heap.size w w') => same_yes (h.below hb) (hx.below hb) (fun _ _ => rfl) hn
  obtain ⟨a, c, rfl, -, -, -⟩ := h
  obtain ⟨a', c', rfl, -, -, -⟩ := hx
  have ess : (s == s) = true := by simp
  have eff : (fac == fac) = true := by simp
  go_enter Try.func12, Try.ntmps12
  go_wp2_with fail
  refine (S.out _ W0.out).mono ?_
  rintro e w1 ⟨rfl, hb⟩
  have W1 := Lib.hid (Buf.then_ W0.out hb)
  clear hb
  go_wp2_with fail
  go_ret
  exact ⟨rfl, W1.out⟩
set_option maxRecDepth 100000 in
set_option maxHeartbeats 4000000 in
theorem samefeed_any {w : World} {v v' u u' : Value} {n m : Nat} {fac s num : Int} {T X : Nat → Int} (h : SV w v n T) (h' : SV w v' n T) (hu : SV w u m X) (hu' : SV w u' m X) (hn : n ≤ 1000000) (hm : m ≤ 1000000) :
    Calls Try.prog 19 #[.agg #[v, .int .i64 fac, .int .i64 s, u, .int .i64 num], .agg #[v', .int .i64 fac, .int .i64 s, u', .int .i64 num]] w fun e w' => e = .returned (.bool true) ∧ Below w.heap.size w w' := by
  have A := Lib.hid fun w' (hb : Below w.heap.size w w') => refsame_any (fac := fac) (s := s) (h.below hb) (h'.below hb) hn
  have S := Lib.hid fun w' (hb : Below w.heap.size w w') => same_yes (hu.below hb) (hu'.below hb) (fun _ _ => rfl) hm
  have W0 := Lib.hid (two_below w (.cells #[v, .int .i64 fac, .int .i64 s, u, .int .i64 num] 45) (.cells #[v', .int .i64 fac, .int .i64 s, u', .int .i64 num] 45))
  have B0 := Lib.hid (two_old w (.cells #[v, .int .i64 fac, .int .i64 s, u, .int .i64 num] 45) (.cells #[v', .int .i64 fac, .int .i64 s, u', .int .i64 num] 45))
  have B1 := Lib.hid (two_new w (.cells #[v, .int .i64 fac, .int .i64 s, u, .int .i64 num] 45) (.cells #[v', .int .i64 fac, .int .i64 s, u', .int .i64 num] 45))
  obtain ⟨a, c, rfl, -, -, -⟩ := h
  obtain ⟨a', c', rfl, -, -, -⟩ := h'
  obtain ⟨b, d, rfl, -, -, -⟩ := hu
  obtain ⟨b', d', rfl, -, -, -⟩ := hu'
  have enn : (num == num) = true := by simp
  go_enter Try.func19, Try.ntmps19
  go_wp2_with fail
  refine (A.out _ W0.out).mono ?_
  rintro e w1 ⟨rfl, hb⟩
  replace B0 := Lib.hid (hop B0.out hb)
  replace B1 := Lib.hid (hop B1.out hb)
  replace W0 := Lib.hid (Buf.then_ W0.out hb)
  clear hb A
  obtain ⟨x0, x1, x2, x3, x4⟩ := cells5 B0.out
  obtain ⟨y0, y1, y2, y3, y4⟩ := cells5 B1.out
  go_wp2_with fail
  refine (S.out _ W0.out).mono ?_
  rintro e w2 ⟨rfl, hb⟩
  have W1 := Lib.hid (Buf.then_ W0.out hb)
  clear hb
  go_wp2_with fail
  go_ret
  exact ⟨rfl, W1.out⟩
end Fil
end Go.Proofs.Ytmnafkfjmeoklaa
