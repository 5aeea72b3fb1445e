/- Contracts of package geometry: Valid and Square. -/
import Derived.Test.YtklgnbimfobgkaaGeo
namespace Go.Proofs.Ytklgnbimfobgkaa
open Go.RowKit
namespace Geo
/-- A valid position. -/
structure PV (x y z : Int) : Prop where
  x0 : -1048576 ≤ x
  x1 : x ≤ 1048576
  y0 : -1048576 ≤ y
  y1 : y ≤ 1048576
  z0 : -16384 ≤ z
  z1 : z ≤ 1048576
theorem ix0 (x y z : Value) (w : World) : (Instr.index 55 (.agg #[x, y, z]) (.int .i64 0)).run Try.prog w = .ok x w := by kernel_rfl
theorem ix1 (x y z : Value) (w : World) : (Instr.index 55 (.agg #[x, y, z]) (.int .i64 1)).run Try.prog w = .ok y w := by kernel_rfl
theorem ix2 (x y z : Value) (w : World) : (Instr.index 55 (.agg #[x, y, z]) (.int .i64 2)).run Try.prog w = .ok z w := by kernel_rfl
theorem valid_yes (x y z : Int) (h : PV x y z) (w : World) :
    Calls Try.prog 36 #[.agg #[.int .i64 x, .int .i64 y, .int .i64 z]] w fun e w' => e = .returned (.bool true) ∧ Below w.heap.size w w' := by
  obtain ⟨x0, x1, y0, y1, z0, z1⟩ := h
  have i0 := ix0 (.int .i64 x) (.int .i64 y) (.int .i64 z)
  have i1 := ix1 (.int .i64 x) (.int .i64 y) (.int .i64 z)
  have i2 := ix2 (.int .i64 x) (.int .i64 y) (.int .i64 z)
  go_enter Try.func36, Try.ntmps36
  have g2 := blk_new1 w (.cells #[.int .i64 x, .int .i64 y, .int .i64 z] 23) (.cells #[.int .i64 (-1048576), .int .i64 (-1048576), .int .i64 (-16384)] 55)
  have hW : Below w.heap.size w ((w.alloc (.cells #[.int .i64 x, .int .i64 y, .int .i64 z] 23)).alloc (.cells #[.int .i64 (-1048576), .int .i64 (-1048576), .int .i64 (-16384)] 55)) := ((Below.refl _ _).alloc (Nat.le_refl _) _).alloc (by simp) _
  replace g2 := Lib.hid g2
  replace hW := Lib.hid hW
  go_wp2_with (go_at_call 50; refine (coords_any _ _ _ _).mono ?_; rintro r w1 ⟨rfl, hb⟩; replace g2 := Lib.hid (blk_b hb g2.out); replace hW := Lib.hid (Buf.then_ hW.out hb); obtain ⟨b1, b2, b3, _, _, _⟩ := cells3 g2.out; clear hb)
  go_loop [9] (fun i => ∃ k : Nat, k ≤ 3 ∧ i = .int .i64 k) (fun i => (3 - intOf i).toNat)
  case atStart => exact ⟨0, by omega, rfl⟩
  case round =>
    obtain ⟨k, hk, rfl⟩ := hrel
    by_cases h0 : k = 0
    · subst h0
      go_wp2
      go_round
      case rel => exact ⟨1, by omega, rfl⟩
      case measure => simp [intOf]
    by_cases h1 : k = 1
    · subst h1
      go_wp2
      go_round
      case rel => exact ⟨2, by omega, rfl⟩
      case measure => simp [intOf]
    by_cases h2 : k = 2
    · subst h2
      go_wp2
      go_round
      case rel => exact ⟨3, by omega, rfl⟩
      case measure => simp [intOf]
    obtain rfl : k = 3 := by omega
    go_wp2
    go_ret
    exact ⟨rfl, hW.out⟩
end Geo
end Go.Proofs.Ytklgnbimfobgkaa
