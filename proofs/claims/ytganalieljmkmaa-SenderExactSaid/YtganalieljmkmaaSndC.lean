/- Contracts of the reference of layer 10: New, Valid, Next. -/
import Derived.Test.YtganalieljmkmaaSndB
import Derived.Test.YtganalieljmkmaaSndP
set_option linter.unusedVariables false
set_option linter.unusedSimpArgs false
namespace Go.Proofs.Ytganalieljmkmaa
open Go.RowKit Wi Dice
namespace Snd
theorem in_yes (n lo hi : Int) (w : World) (h1 : lo ≤ n) (h2 : n ≤ hi) :
    Calls Try.prog 28 #[.int .i64 n, .int .i64 lo, .int .i64 hi] w fun e w' => e = .returned (.bool true) ∧ w' = w := by
  have h := Sp.in_any n lo hi w
  rw [decide_eq_true (And.intro h1 h2)] at h
  exact h
theorem refnext_any {w : World} {a : Option Addr} {n cap : Nat} (size first : Int) (f0 : 0 ≤ first) (f1 : first ≤ 1000) (hn : n ≤ 256) :
    Calls Try.prog 18 #[.agg #[.int .i64 size, .int .i64 first, .slice a n cap]] w fun e w' => e = .returned (.int .i64 (first + n)) ∧ Below w.heap.size w w' := by
  go_enter Try.func18, Try.ntmps18
  go_wp2
  go_ret
  exact ⟨rfl, new_block _⟩
theorem refnew_any {w : World} (size : Int) (s1 : 1 ≤ size) (s2 : size ≤ 256) :
    Calls Try.prog 25 #[.int .i64 size] w fun e w' => e = .returned (.tuple #[.agg #[.int .i64 size, .int .i64 0, .slice none 0 0], .int .i64 0]) ∧ Below w.heap.size w w' := by
  go_enter Try.func25, Try.ntmps25
  go_wp2_with (go_at_call 28; refine (in_yes _ _ _ _ (by omega) (by omega)).mono ?_; rintro e w' ⟨rfl, rfl⟩)
  refine bodyPost_ret (v := .tuple #[.agg #[.int .i64 size, .int .i64 0, .slice none 0 0], .int .i64 0]) (by simp [results, Try.results25, go_sem]) rfl ⟨rfl, ?_⟩
  repeat (first | exact new_block _ | refine Below.setCell ?_ (Nat.le_refl _) _)
theorem refvalid_yes {B : Nat} {w : World} {a : Option Addr} {n cap : Nat} {ms : List ByteArray} (size first : Int) (gd : Good size first n ms) (h : Row B w a n cap ms) :
    Calls Try.prog 16 #[.agg #[.int .i64 size, .int .i64 first, .slice a n cap]] w fun e w' => e = .returned (.bool true) ∧ Below w.heap.size w w' := by
  obtain ⟨s1, s2, f0, f1, le, sm⟩ := gd
  have HS := Lib.hid sm
  clear sm
  have d1 : decide (size < (n : Int)) = false := decide_eq_false (by omega)
  have d2 : decide ((1073741825 : Int) < first + n) = false := decide_eq_false (by omega)
  have b0 := Lib.hid (heap_alloc_new w (.cells #[.int .i64 size, .int .i64 first, .slice a n cap] 25))
  have B0 := Lib.hid (new_block (w := w) (.cells #[.int .i64 size, .int .i64 first, .slice a n cap] 25))
  obtain ⟨hn, hr⟩ := h
  replace hn := Lib.hid hn
  rcases hr with ⟨rfl, rfl, rfl⟩ | ⟨g, off, rfl, hc, hc2, hB, hg, hcell⟩
  · go_enter Try.func16, Try.ntmps16
    go_wp2_with (go_at_call 28; refine (in_yes _ _ _ _ (by omega) (by omega)).mono ?_; rintro e w' ⟨rfl, rfl⟩)
    go_loop [3] (fun i => i = .int .i64 0) (fun _ => 0)
    case atStart => rfl
    case round =>
      subst hrel
      go_wp2
      go_ret
      exact ⟨rfl, B0.out⟩
  · have HC := Lib.hid hcell
    clear hcell hc2
    go_enter Try.func16, Try.ntmps16
    go_wp2_with (go_at_call 28; refine (in_yes _ _ _ _ (by omega) (by omega)).mono ?_; rintro e w' ⟨rfl, rfl⟩)
    generalize w.alloc (.cells #[.int .i64 size, .int .i64 first, .slice (some ⟨g, off, none⟩) n cap] 25) = w1 at *
    obtain ⟨k0, k1, k2⟩ := cells3 b0.out
    go_loop [3] (fun i => ∃ k : Nat, k ≤ n ∧ i = .int .i64 k) (fun i => n - (intOf i).toNat)
    case atStart => exact ⟨0, Nat.zero_le _, rfl⟩
    case round =>
      obtain ⟨k, hk, rfl⟩ := hrel
      by_cases hlt : k < n
      · have c : w1.cell? ⟨g, off + k, none⟩ = some (.string (ms.getD k ByteArray.empty)) := by rw [B0.out.cell (p := ⟨g, off + k, none⟩) hg]; exact HC.out k hlt
        have hs := HS.out k hlt
        generalize ms.getD k ByteArray.empty = s at c hs
        have hlt' : (k : Int) < n := by omega
        have d3 : decide ((4064 : Int) < s.size) = false := decide_eq_false (by omega)
        go_wp2
        go_round
        case rel => exact ⟨k + 1, by omega, by go_num⟩
        case measure => simp [intOf]; omega
      · obtain rfl : k = n := by omega
        go_wp2
        go_ret
        exact ⟨rfl, B0.out⟩
end Snd
end Go.Proofs.Ytganalieljmkmaa
