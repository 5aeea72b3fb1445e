/- Divisors and the reference of New. -/
import Derived.Test.YtgckppkfpccanaaRateN
namespace Go.Proofs.Ytgckppkfpccanaa
open Go.RowKit Dice
namespace Rate
theorem picked_range {v : Int} {xs : List Int} (h : v ∈ xs) (hx : ∀ z ∈ xs, 1 ≤ z ∧ z ≤ 4096) : 1 ≤ v ∧ v ≤ 4096 := hx v h
theorem gcd_any (a b : Nat) (w : World) (ha : (a : Int) ≤ 4611686018427387904) (hb : (b : Int) ≤ 4611686018427387904) :
    Calls Try.prog 33 #[.int .i64 a, .int .i64 b] w fun e w' => e = .returned (.int .i64 (Nat.gcd a b : Nat)) ∧ ∃ m, w' = w.drewN m := by
  go_enter Try.func33, Try.ntmps33
  go_wp2_with fail
  go_loopw [0, 1] (fun u v wr => ∃ x y : Nat, u = .int .i64 x ∧ v = .int .i64 y ∧ Hid (Nat.gcd x y = Nat.gcd a b) ∧ (x : Int) ≤ 4611686018427387904 ∧ (y : Int) ≤ 4611686018427387904 ∧ ∃ m, wr = w.drewN m) (fun _ v _ => (intOf v).toNat)
  case atStart => exact ⟨a, b, rfl, rfl, rfl, ha, hb, 0, rfl⟩
  case round =>
    obtain ⟨x, y, rfl, rfl, hg, hx, hy, m, rfl⟩ := hrel
    by_cases h0 : y = 0
    · subst h0
      have hg' : Hid (x = Nat.gcd a b) := by rw [← hg.out, Nat.gcd_zero_right]; rfl
      go_wp2
      go_ret
      exact ⟨ret1 (by rw [← hg'.out]), _, rfl⟩
    · have hb1 : (((y : Int)) != 0) = true := by rw [bne_iff_ne]; omega
      have hm : x % y < y := Nat.mod_lt _ (by omega)
      have e1 : ((x : Int)) % (y : Int) = ((x % y : Nat) : Int) := by simp
      have hst : Hid (Nat.gcd y (x % y) = Nat.gcd a b) := by rw [← hg.out, Nat.gcd_comm x y]; show _ = _; rw [Nat.gcd_comm y (x % y), ← Nat.gcd_rec]
      go_wp2_with fail
      go_quiet (fail)
      go_wp2
      go_roundw
      case rel => exact ⟨y, x % y, rfl, by simp, hst, hy, by omega, _, World.drewN_drewN _ _ _⟩
      case measure => simp [intOf]; omega
/-- What the divisor is, for New. -/
structure Dv (a b g : Int) : Prop where
  g1 : 1 ≤ g
  a0 : 0 ≤ a / g
  a1 : a / g ≤ a
  b0 : 0 ≤ b / g
  b1 : b / g ≤ b
  rv : RV (a / g) (b / g)
  calls : ∀ w, Calls Try.prog 31 #[.int .i64 a, .int .i64 b] w fun e w' => e = .returned (.int .i64 g) ∧ ∃ m, w' = w.drewN m
  refs : ∀ w, Calls Try.prog 33 #[.int .i64 a, .int .i64 b] w fun e w' => e = .returned (.int .i64 g) ∧ ∃ m, w' = w.drewN m
theorem dv_of (a b : Int) (a1 : 1 ≤ a) (a2 : a ≤ 4096) (b1 : 1 ≤ b) (b2 : b ≤ 4096) : ∃ g, Dv a b g ∧ g = (Nat.gcd a.toNat b.toNat : Nat) := by
  obtain ⟨x, rfl⟩ := Int.eq_ofNat_of_zero_le (show 0 ≤ a by omega)
  obtain ⟨y, rfl⟩ := Int.eq_ofNat_of_zero_le (show 0 ≤ b by omega)
  have g0 : 0 < Nat.gcd x y := Nat.gcd_pos_of_pos_left _ (by omega)
  have h := rv_of x y (by omega) (by omega) (by omega) (by omega)
  have q1 := Nat.div_le_self x (Nat.gcd x y)
  have q2 := Nat.div_le_self y (Nat.gcd x y)
  have e1 : (x : Int) / ((Nat.gcd x y : Nat) : Int) = ((x / Nat.gcd x y : Nat) : Int) := (Int.natCast_ediv _ _).symm
  have e2 : (y : Int) / ((Nat.gcd x y : Nat) : Int) = ((y / Nat.gcd x y : Nat) : Int) := (Int.natCast_ediv _ _).symm
  refine ⟨(Nat.gcd x y : Nat), ⟨by omega, ?_, ?_, ?_, ?_, ?_, fun w => divisor_any x y w (by omega) (by omega), fun w => gcd_any x y w (by omega) (by omega)⟩, rfl⟩
  · rw [e1]; exact Int.natCast_nonneg _
  · rw [e1]; omega
  · rw [e2]; exact Int.natCast_nonneg _
  · rw [e2]; omega
  · rw [e1, e2]; exact h
theorem ref_new_ok (a b g : Int) (w : World) (a1 : 1 ≤ a) (a2 : a ≤ 4096) (b1 : 1 ≤ b) (b2 : b ≤ 4096) (hd : Dv a b g) :
    Calls Try.prog 29 #[.int .i64 a, .int .i64 b] w fun e w' => e = .returned (.tuple #[.agg #[.int .i64 (a / g), .int .i64 (b / g)], .int .i64 0]) ∧ Below w.heap.size w w' := by
  obtain ⟨g1, p0, p1, q0, q1, _, _, G⟩ := hd
  have G := Lib.hid G
  go_enter Try.func29, Try.ntmps29
  go_wp2_with (first | (go_at_call 32; refine (in_yes _ _ _ _ (by omega) (by omega)).mono ?_; rintro e w' ⟨rfl, m, rfl⟩) | (go_at_call 33; with_reducible refine (G.out _).mono ?_; rintro e w' ⟨rfl, m, rfl⟩))
  go_region
  go_wp2
  refine bodyPost_ret (v := .tuple #[.agg #[.int .i64 (a / g), .int .i64 (b / g)], .int .i64 0]) ?_ rfl ⟨rfl, Below.setCell (Below.setCell (Buf.below_drewN ((Below.refl _ _).alloc (Nat.le_refl _) _) _) (Nat.le_refl _) _) (Nat.le_refl _) _⟩
  rw [results_cell_tmp rfl]
  go_simp
end Rate
end Go.Proofs.Ytgckppkfpccanaa
