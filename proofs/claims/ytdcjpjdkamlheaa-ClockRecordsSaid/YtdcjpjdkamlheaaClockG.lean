/- Contracts of package clock at any list of at most five valid anchors. -/
import Derived.Test.YtdcjpjdkamlheaaClockC
import Derived.Test.YtdcjpjdkamlheaaClockS
set_option linter.unusedVariables false
namespace Go.Proofs.Ytdcjpjdkamlheaa
open Go.RowKit Wi Dice
namespace Clock
/-- A list of anchors in memory. -/
def As (w : World) (g n : Nat) (T L H : Nat → Int) : Prop := ∀ k, k < n → An w g (k * 3) (T k) (L k) (H k)
theorem As.below {w w' : World} {g n : Nat} {T L H : Nat → Int} (h : As w g n T L H) (hb : Below w.heap.size w w') : As w' g n T L H := fun k hk => (h k hk).below hb
theorem As.at {w : World} {g n : Nat} {T L H : Nat → Int} (h : As w g n T L H) (k : Nat) (hk : k < n) : w.cell? ⟨g, k * 3, none⟩ = some (.int .i64 (T k)) ∧ w.cell? ⟨g, k * 3 + 1, none⟩ = some (.int .i64 (L k)) ∧ w.cell? ⟨g, k * 3 + 2, none⟩ = some (.int .i64 (H k)) := h k hk
set_option maxHeartbeats 1000000 in
theorem valid_any {n : Nat} {T L H : Nat → Int} (ok : Ok n T L H) (x : Int) (x0 : 0 ≤ x) (x1 : x ≤ 500000) (g c : Nat) (w : World) (a : As w g n T L H) :
    Calls Try.prog 26 #[.slice (some ⟨g, 0, none⟩) n c, .int .i64 x] w fun e w' => e = .returned (.bool true) ∧ Below w.heap.size w w' := by
  have n5 := ok.n5
  have O := Lib.hid ok
  have A := Lib.hid a
  clear a ok
  go_enter Try.func26, Try.ntmps26
  go_wp2_with (go_at_call 27; refine (within_yes _ _ _ _ (by omega) (by omega)).mono ?_; rintro e w' ⟨rfl, m, rfl⟩)
  go_loopw [17] (fun i wr => ∃ k : Nat, k ≤ n ∧ i = .int .i64 k ∧ Hid (Below w.heap.size w wr)) (fun i _ => n - (intOf i).toNat)
  case atStart => exact ⟨0, by omega, rfl, Lib.hid (Buf.below_drewN (Below.refl _ _) _)⟩
  case round =>
    obtain ⟨k, hk, rfl, HB⟩ := hrel
    by_cases hlt : k < n
    · obtain ⟨a0, a1, a2⟩ := (A.out.below HB.out).at k hlt
      have t0 := O.out.t0 k hlt
      have t1 := O.out.t1 k hlt
      have l0 := O.out.l0 k hlt
      have lh := O.out.lh k hlt
      have h1 := O.out.h1 k hlt
      rcases Nat.eq_zero_or_pos k with rfl | hpos
      · generalize T 0 = tk at *
        generalize L 0 = lk at *
        generalize H 0 = hk' at *
        go_wp2_with (go_at_call 27; refine (within_yes _ _ _ _ (by omega) (by omega)).mono ?_; rintro e w' ⟨rfl, m, rfl⟩)
        go_quiet (fail)
        go_wp2
        go_roundw
        case rel => exact ⟨1, by omega, rfl, Lib.hid (Buf.below_drewN (HB.out.alloc (by have := HB.out.size; omega) _) _)⟩
        case measure => simp [intOf]; omega
      · obtain ⟨j, rfl⟩ : ∃ j, k = j + 1 := ⟨k - 1, by omega⟩
        have up := O.out.up j hlt
        have c0 : ∀ o m, ((wr.alloc o).drewN m).cell? ⟨g, j * 3, none⟩ = some (.int .i64 (T j)) := fun o m => ((((A.out.below HB.out).below (new_block o)) j (by omega))).1
        have ej : (j + 1 : Nat) - 1 = j := rfl
        generalize T (j + 1) = tk at *
        generalize L (j + 1) = lk at *
        generalize H (j + 1) = hk' at *
        generalize T j = tj at *
        have hd : decide (tk ≤ tj) = false := by simp; omega
        clear ej hpos
        go_wp2_with (go_at_call 27; refine (within_yes _ _ _ _ (by omega) (by omega)).mono ?_; rintro e w' ⟨rfl, m, rfl⟩)
        go_quiet (fail)
        go_wp2
        go_roundw
        case rel => exact ⟨j + 2, by omega, by go_num, Lib.hid (Buf.below_drewN (HB.out.alloc (by have := HB.out.size; omega) _) _)⟩
        case measure => simp [intOf]; omega
    · obtain rfl : k = n := by omega
      go_wp2
      go_ret
      exact ⟨rfl, HB.out⟩
end Clock
end Go.Proofs.Ytdcjpjdkamlheaa
