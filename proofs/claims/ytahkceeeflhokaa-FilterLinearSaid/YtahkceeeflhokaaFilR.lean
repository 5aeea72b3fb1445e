/- The reference's Valid and Same of filters. -/
import Derived.Test.YtahkceeeflhokaaFilS
set_option linter.unusedVariables false
namespace Go.Proofs.Ytahkceeeflhokaa
open Go.RowKit Wi Dice
namespace Fil
theorem in_yes (n lo hi : Int) (w : World) (h1 : lo ≤ n) (h2 : n ≤ hi) :
    Calls Try.prog 30 #[.int .i64 n, .int .i64 lo, .int .i64 hi] w fun e w' => e = .returned (.bool true) ∧ ∃ m, w' = w.drewN m := by
  go_enter Try.func30, Try.ntmps30
  go_wp2
  go_ret
  exact ⟨rfl, 0, rfl⟩
set_option maxHeartbeats 2000000 in
theorem refvalid_yes {w : World} {v : Value} {n s : Nat} {T : Nat → Int} (h : SV w v n T) (fg : FG n T 1 s) :
    Calls Try.prog 17 #[.agg #[v, .int .i64 1, .int .i64 s]] w fun e w' => e = .returned (.bool true) ∧ Below w.heap.size w w' := by
  have S0 := Lib.hid fun w' (hb : Below w.heap.size w w') => h.below hb
  obtain ⟨a, c, rfl, h1, h2, _⟩ := h
  obtain ⟨n1, n2, s2, f1, f2, sum⟩ := fg
  have HS := Lib.hid sum
  obtain ⟨p1, p2⟩ := pow_bd30 s s2
  have HT := Lib.hid fun k (hk : k < n) => absum_tap T k n hk
  have HL := Lib.hid fun k (hk : k ≤ n) => absum_le T k n hk
  have HN := Lib.hid (absum_nn T)
  have B0 := Lib.hid (heap_alloc_new w (.cells #[.slice a n c, .int .i64 1, .int .i64 s] 29))
  have W0 := Lib.hid (new_block (w := w) (.cells #[.slice a n c, .int .i64 1, .int .i64 s] 29))
  have hws : Hid ((w.alloc (.cells #[.slice a n c, .int .i64 1, .int .i64 s] 29)).heap.size = w.heap.size + 1) := Lib.hid (by simp)
  clear h2 sum
  go_enter Try.func17, Try.ntmps17
  go_wp2_with (go_at_call 30; refine (in_yes _ _ _ _ (by omega) (by omega)).mono ?_; rintro e w' ⟨rfl, m, rfl⟩)
  go_loopw [3, 4] (fun u i wr => ∃ k : Nat, k ≤ n ∧ u = .int .i64 (absum T k) ∧ i = .int .i64 k ∧ Hid (Below (w.alloc (.cells #[.slice a n c, .int .i64 1, .int .i64 s] 29)).heap.size (w.alloc (.cells #[.slice a n c, .int .i64 1, .int .i64 s] 29)) wr)) (fun _ i _ => n - (intOf i).toNat)
  case atStart => exact ⟨0, by omega, rfl, rfl, Lib.hid (Buf.below_drewN (Below.refl _ _) _)⟩
  case round =>
    obtain ⟨k, hk, rfl, rfl, hb⟩ := hrel
    have B1 := Lib.hid (box3 B0.out hb.out)
    obtain ⟨x0, x1, x2⟩ := cells3 B1.out
    by_cases hlt : k < n
    · obtain ⟨b, off, rfl, c1⟩ := (S0.out _ (Buf.then_ W0.out hb.out)).at k hlt
      obtain ⟨y1, y2⟩ := HT.out k hlt
      have hs1 := HL.out k hk
      have hs0 := HN.out k
      have hq := HS.out
      have e1 : Hid (absum T (k + 1) = absum T k + max (T k) (-T k)) := Lib.hid rfl
      generalize absum T n = A at *
      generalize absum T k = B at *
      generalize T k = x at *
      have y3 : 0 ≤ max x (-x) ∧ max x (-x) ≤ 1073741824 := by omega
      go_wp2_with (go_at_call 30; refine (in_yes _ _ _ _ (by omega) (by omega)).mono ?_; rintro e w' ⟨rfl, m, rfl⟩)
      go_quiet (fail)
      go_wp2_with fail
      go_roundw
      case rel => exact ⟨k + 1, by omega, by rw [e1.out], by go_num, Lib.hid (Buf.below_drewN hb.out _)⟩
      case measure => simp [intOf]; omega
    · obtain rfl : k = n := by omega
      have hq := HS.out
      have d : decide (absum T k ≤ 2 ^ s) = true := by simpa using hq
      have hq0 := HN.out k
      generalize absum T k = A at *
      go_wp2_with fail
      go_ret
      exact ⟨rfl, Buf.then_ W0.out hb.out⟩
theorem refsame_yes {w : World} {v u : Value} {n s : Nat} {X Y : Nat → Int} (h : SV w v n X) (hx : SV w u n Y) (he : ∀ j, j < n → X j = Y j) (hn : n ≤ 1000000) :
    Calls Try.prog 16 #[.agg #[v, .int .i64 1, .int .i64 s], .agg #[u, .int .i64 1, .int .i64 s]] w fun e w' => e = .returned (.bool true) ∧ Below w.heap.size w w' := by
  have W0 := Lib.hid (((new_block (w := w) (.cells #[v, .int .i64 1, .int .i64 s] 29)).alloc (by simp) (.cells #[u, .int .i64 1, .int .i64 s] 29)))
  have S := Lib.hid fun w' (hb : Below w.heap.size w w') => same_yes (h.below hb) (hx.below hb) he hn
  obtain ⟨a, c, rfl, _⟩ := h
  obtain ⟨a', c', rfl, _⟩ := hx
  have ess : ((s : Int) == (s : Int)) = true := by simp
  clear he
  go_enter Try.func16, Try.ntmps16
  go_wp2_with fail
  refine (S.out _ W0.out).mono ?_
  rintro e w1 ⟨rfl, hb⟩
  have W1 := Lib.hid (Buf.then_ W0.out hb)
  clear hb
  go_wp2_with fail
  go_ret
  exact ⟨rfl, W1.out⟩
end Fil
end Go.Proofs.Ytahkceeeflhokaa
