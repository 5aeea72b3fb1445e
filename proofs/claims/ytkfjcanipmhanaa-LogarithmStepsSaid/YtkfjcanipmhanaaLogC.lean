/- Contracts of package logarithm: Floor, Ceil, LogNat at the example, and the examples of the chapter. -/
import Derived.Test.YtkfjcanipmhanaaLogB
import Derived.Test.YtkfjcanipmhanaaKeep
namespace Go.Proofs.Ytkfjcanipmhanaa
open Go.RowKit
namespace Log
theorem fdiv_nonneg (a : Int) (w : World) (h0 : 0 ≤ a) (h1 : a ≤ 1000000000000) :
    Calls Try.prog 24 #[.int .i64 a, .int .i64 256000] w fun e w' => e = .returned (.int .i64 (a / 256000)) ∧ w' = w := by
  have hd : decide (a % 256000 < 0) = false := by simp; omega
  go_enter Try.func24, Try.ntmps24
  go_wp2
  go_ret
  exact ⟨rfl, rfl⟩
theorem fdiv_neg (a : Int) (w : World) (h0 : a < 0) (h1 : -1000000000000 ≤ a) :
    Calls Try.prog 24 #[.int .i64 a, .int .i64 256000] w fun e w' => e = .returned (.int .i64 (a / 256000)) ∧ w' = w := by
  have e : a.tdiv 256000 = -(-a / 256000) := by
    have := Int.tdiv_eq_ediv_of_nonneg (a := -a) (b := 256000) (by omega)
    rw [Int.neg_tdiv] at this; omega
  have f : a.tmod 256000 = -(-a % 256000) := by
    have := Int.tmod_eq_emod_of_nonneg (a := -a) (b := 256000) (by omega)
    rw [Int.neg_tmod] at this; omega
  by_cases hz : -a % 256000 = 0
  · have hq : Hid (a / 256000 = -(-a / 256000)) := by show _ = _; omega
    have hd : a.tmod 256000 = 0 := by omega
    rw [hq.out]
    have g0 : 0 ≤ -a / 256000 := by omega
    have g1 : -a / 256000 ≤ 10000000 := by omega
    clear f hz hq
    generalize -a / 256000 = q at *
    go_enter Try.func24, Try.ntmps24
    go_wp2
    go_ret
    exact ⟨rfl, rfl⟩
  · have hq : Hid (a / 256000 = -(-a / 256000) - 1) := by show _ = _; omega
    have hd : decide (a.tmod 256000 < 0) = true := by simp; omega
    rw [hq.out]
    have g0 : 0 ≤ -a / 256000 := by omega
    have g1 : -a / 256000 ≤ 10000000 := by omega
    clear f hz hq
    generalize -a / 256000 = q at *
    go_enter Try.func24, Try.ntmps24
    go_wp2
    go_ret
    exact ⟨rfl, rfl⟩
theorem fdiv_any (a : Int) (w : World) (h0 : -1000000000000 ≤ a) (h1 : a ≤ 1000000000000) :
    Calls Try.prog 24 #[.int .i64 a, .int .i64 256000] w fun e w' => e = .returned (.int .i64 (a / 256000)) ∧ w' = w := by
  by_cases h : 0 ≤ a
  · exact fdiv_nonneg a w h h1
  · exact fdiv_neg a w (by omega) h0
theorem floor_any (l : Int) (w : World) (h0 : -16777216 ≤ l) (h1 : l ≤ 16777216) :
    Calls Try.prog 10 #[.int .i64 l] w fun e w' => e = .returned (.int .i64 (l * 30103 / 256000)) ∧ w' = w := by
  have D : Hid (∀ w, Calls Try.prog 24 #[.int .i64 (l * 30103), .int .i64 256000] w fun e w' => e = .returned (.int .i64 (l * 30103 / 256000)) ∧ w' = w) := Lib.hid fun w => fdiv_any _ w (by omega) (by omega)
  generalize hq : l * 30103 / 256000 = q at *
  replace hq := Lib.hid hq
  go_enter Try.func10, Try.ntmps10
  go_wp2_with (go_at_call 24; with_reducible refine (D.out _).mono ?_; rintro e w' ⟨rfl, rfl⟩)
  go_ret
  exact ⟨rfl, rfl⟩
theorem ceil_any (l : Int) (w : World) (h0 : -16777216 ≤ l) (h1 : l ≤ 16777216) :
    Calls Try.prog 12 #[.int .i64 l] w fun e w' => e = .returned (.int .i64 (-(-l * 30103 / 256000))) ∧ w' = w := by
  have D : Hid (∀ w, Calls Try.prog 24 #[.int .i64 (-l * 30103), .int .i64 256000] w fun e w' => e = .returned (.int .i64 (-l * 30103 / 256000)) ∧ w' = w) := Lib.hid fun w => fdiv_any _ w (by omega) (by omega)
  have q0 : -3000000 ≤ -l * 30103 / 256000 := by omega
  have q1 : -l * 30103 / 256000 ≤ 3000000 := by omega
  generalize hq : -l * 30103 / 256000 = q at *
  replace hq := Lib.hid hq
  go_enter Try.func12, Try.ntmps12
  go_wp2_with (go_at_call 24; with_reducible refine (D.out _).mono ?_; rintro e w' ⟨rfl, rfl⟩)
  go_ret
  exact ⟨rfl, rfl⟩
theorem two_cells (w : World) (x y : Value) (t : TypeId) : (w.alloc (.cells #[x, y] t)).cell? ⟨w.heap.size, 0, none⟩ = some x ∧ (w.alloc (.cells #[x, y] t)).cell? ⟨w.heap.size, 1, none⟩ = some y :=
  ⟨(World.cell?_alloc_mark w #[x, y] t (0, 0) 0).trans rfl, (World.cell?_alloc_mark w #[x, y] t (0, 0) 1).trans rfl⟩
/-- nat.Valid at the example. -/
theorem valid_04 (b : Nat) (w : World) (c0 : w.cell? ⟨b, 0, none⟩ = some (.int .i64 0)) (c1 : w.cell? ⟨b, 1, none⟩ = some (.int .i64 4)) :
    Calls Try.prog 25 #[.slice (some ⟨b, 0, none⟩) 2 2] w fun e w' => e = .returned (.bool true) ∧ w' = w := by
  go_enter Try.func25, Try.ntmps25
  go_wp2
  go_loop [10] (fun i => ∃ k : Nat, k ≤ 2 ∧ i = .int .i64 k) (fun i => (2 - intOf i).toNat)
  case atStart => exact ⟨0, by omega, rfl⟩
  case round =>
    obtain ⟨k, hk, rfl⟩ := hrel
    by_cases h0 : k = 0
    · subst h0
      go_wp2
      go_round
      case rel => exact ⟨1, by omega, rfl⟩
      case measure => simp [intOf]
    by_cases h1 : k = 1
    · subst h1
      go_wp2
      go_round
      case rel => exact ⟨2, by omega, rfl⟩
      case measure => simp [intOf]
    obtain rfl : k = 2 := by omega
    go_wp2
    go_ret
    exact ⟨rfl, rfl⟩
theorem logNat_04 (b : Nat) (w : World) (c0 : w.cell? ⟨b, 0, none⟩ = some (.int .i64 0)) (c1 : w.cell? ⟨b, 1, none⟩ = some (.int .i64 4)) :
    Calls Try.prog 14 #[.slice (some ⟨b, 0, none⟩) 2 2] w fun e w' => e = .returned (.tuple #[.int .i64 8192, .int .i64 0]) ∧ ∃ m, w' = w.drewN m := by
  have hor : bits .or .i64 4294967296 0 = 4294967296 := by decide
  have D : Hid (∀ w, Calls Try.prog 8 #[.int .i64 4294967296] w fun e w' => e = .returned (.tuple #[.int .i64 8192, .int .i64 0]) ∧ w' = w) := Lib.hid fun w => log_any 4294967296 32 w (by omega) (by decide) (by decide)
  have V := Lib.hid (valid_04 b w c0 c1)
  go_enter Try.func14, Try.ntmps14
  go_wp2_with (go_at_call 25; with_reducible refine V.out.mono ?_; rintro e w' ⟨rfl, rfl⟩)
  go_quiet ((go_at_call 8; exact Calls.quiet_of_same (D.out _)))
  go_wp2
  go_ret2
  exact ⟨rfl, _, rfl⟩
theorem awake_any (w : World) : Calls Try.prog 5 #[] w fun e w' => e = .returned (.bool true) ∧ Below w.heap.size w w' := by
  have L1 : Hid (∀ w, Calls Try.prog 8 #[.int .i64 1024] w fun e w' => e = .returned (.tuple #[.int .i64 2560, .int .i64 0]) ∧ w' = w) := Lib.hid fun w => log_any 1024 10 w (by omega) (by decide) (by decide)
  have L2 : Hid (∀ w, Calls Try.prog 8 #[.int .i64 3] w fun e w' => e = .returned (.tuple #[.int .i64 405, .int .i64 0]) ∧ w' = w) := Lib.hid fun w => log_any 3 1 w (by omega) (by decide) (by decide)
  have F1 : Hid (∀ w, Calls Try.prog 10 #[.int .i64 256] w fun e w' => e = .returned (.int .i64 30) ∧ w' = w) := Lib.hid fun w => floor_any 256 w (by omega) (by omega)
  have F2 : Hid (∀ w, Calls Try.prog 12 #[.int .i64 256] w fun e w' => e = .returned (.int .i64 31) ∧ w' = w) := Lib.hid fun w => ceil_any 256 w (by omega) (by omega)
  have F3 : Hid (∀ w, Calls Try.prog 10 #[.int .i64 (-256)] w fun e w' => e = .returned (.int .i64 (-31)) ∧ w' = w) := Lib.hid fun w => floor_any (-256) w (by omega) (by omega)
  obtain ⟨c0, c1⟩ := two_cells w (.int .i64 0) (.int .i64 4) 3
  go_enter Try.func5, Try.ntmps5
  go_wp2_with (first
    | (go_at_call 8; (first | with_reducible refine (L1.out _).mono ?_ | with_reducible refine (L2.out _).mono ?_); rintro e w1 ⟨rfl, rfl⟩)
    | (go_at_call 10; (first | with_reducible refine (F1.out _).mono ?_ | with_reducible refine (F3.out _).mono ?_); rintro e w1 ⟨rfl, rfl⟩)
    | (go_at_call 12; with_reducible refine (F2.out _).mono ?_; rintro e w1 ⟨rfl, rfl⟩)
    | (go_at_call 14; refine (logNat_04 _ _ c0 c1).mono ?_; rintro e w1 ⟨rfl, m, rfl⟩))
  go_ret
  exact ⟨rfl, Buf.below_drewN ((Below.refl _ _).alloc (Nat.le_refl _) _) _⟩
end Log
end Go.Proofs.Ytkfjcanipmhanaa
