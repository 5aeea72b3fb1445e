/- The reference's Valid and Time of rates. -/
import Derived.Test.YticdjlpabknaiaaRateBN
set_option linter.unusedVariables false
namespace Go.Proofs.Yticdjlpabknaiaa
open Go.RowKit Dice
namespace Rate
theorem ref_valid_yes (n d : Int) (h : RV n d) (w : World) :
    Calls Try.prog 46 #[.agg #[.int .i64 n, .int .i64 d]] w fun e w' => e = .returned (.bool true) ∧ Below w.heap.size w w' := by
  obtain ⟨n1, n2, d1, d2, co⟩ := h
  have G : Hid (∀ w, Calls Try.prog 44 #[.int .i64 n, .int .i64 d] w fun e w' => e = .returned (.int .i64 1) ∧ ∃ m, w' = w.drewN m) := by
    intro w
    have := gcd_any n.toNat d.toNat w (by omega) (by omega)
    rw [co, Int.toNat_of_nonneg (by omega), Int.toNat_of_nonneg (by omega)] at this
    exact this
  clear co
  go_enter Try.func46, Try.ntmps46
  go_wp2_with (first | (go_at_call 34; refine (in_yes _ _ _ _ (by omega) (by omega)).mono ?_; rintro e w' ⟨rfl, m, rfl⟩) | (go_at_call 44; with_reducible refine (G.out _).mono ?_; rintro e w' ⟨rfl, m, rfl⟩))
  go_ret
  exact ⟨rfl, Buf.below_drewN ((Below.refl _ _).alloc (Nat.le_refl _) _) _⟩
theorem ref_time_ok (st n d k : Int) (h : RV n d) (w : World) (s0 : 0 ≤ st) (s1 : st ≤ 9007199254740992) (k0 : 0 ≤ k) (k1 : k ≤ 16777216) :
    Calls Try.prog 48 #[.int .i64 st, .agg #[.int .i64 n, .int .i64 d], .int .i64 k] w fun e w' => e = .returned (.tuple #[.int .i64 (st + el n d k), .int .i64 0]) ∧ Below w.heap.size w w' := by
  obtain ⟨e0, e1⟩ := el_bd n d k h.n1 h.d1 h.d2 k0 (by omega)
  have n1 := h.n1
  have m0 : 0 ≤ k * d := Int.mul_nonneg k0 (by have := h.d1; omega)
  have m1 : k * d ≤ 16777217 * 4096 := Int.mul_le_mul (by omega) h.d2 (by have := h.d1; omega) (by omega)
  have he : Hid (k * d * 1000000 / n = el n d k) := Lib.hid (by unfold el; rw [Int.mul_assoc])
  rw [← he.out] at e0 e1 ⊢
  have q0 : 0 ≤ k * d * 1000000 := by omega
  go_enter Try.func48, Try.ntmps48
  go_wp2_with (first | (go_at_call 46; refine (ref_valid_yes n d h _).mono ?_; rintro e w1 ⟨rfl, hb⟩; obtain ⟨c0, c1⟩ := boxed (by simpa using hb)) | (go_at_call 34; refine (in_yes _ _ _ _ (by omega) (by omega)).mono ?_; rintro e w' ⟨rfl, m, rfl⟩))
  go_ret2
  exact ⟨rfl, Buf.below_drewN (((Below.refl _ _).alloc (Nat.le_refl _) _).trans (hb.mono (by simp))) _⟩
end Rate
end Go.Proofs.Yticdjlpabknaiaa
