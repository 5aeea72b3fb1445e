/- The walk of BitsRanges. -/
import Derived.Test.YtmkcheiidhppbabSane04
namespace Go.Proofs.Ytmkcheiidhppbab
open Go.RowKit Bits
namespace Laws
theorem bitsRanges_walk (a0 : Int) (a1 : Int) (w0 : (Lit.int .u16 a0).wf = true) (w1 : (Lit.int .u8 a1).wf = true) (w : World) :
    Calls Try.prog 4 #[.int .u16 a0, .int .u8 a1] w fun e w' => e = .returned (.bool true) ∧ Below w.heap.size w w' := by
  obtain ⟨u0, u0'⟩ := Ma.wf_u16 w0
  obtain ⟨u1, u1'⟩ := Ma.wf_u8 w1
  clear w0 w1
  have e1 := Ma.pow_half (1 + a1 % 17).toNat (by omega)
  have e2 := Ma.pow_half (1 + a1 % 17 + 1).toNat (by omega)
  rw [show (1 + a1 % 17 + 1).toNat - 1 = (1 + a1 % 17).toNat by omega] at e2
  have e0 : (2 : Int) ^ ((1 + a1 % 17 - 1).toNat - 1) ≤ 2 ^ ((1 + a1 % 17).toNat - 1) := by
    exact_mod_cast Nat.pow_le_pow_right (by decide) (by omega)
  obtain ⟨p1, p2⟩ := Ma.pow_bd ((1 + a1 % 17).toNat - 1) 16 (by omega)
  have p2 : (2 : Int) ^ ((1 + a1 % 17).toNat - 1) ≤ 65536 := p2
  have q1 : (2 : Int) ^ (1 + a1 % 17).toNat ≤ 131072 := by omega
  have q2 : (2 : Int) ≤ 2 ^ (1 + a1 % 17).toNat := by omega
  obtain ⟨m1, m2⟩ := Ma.mod_bd (a0 - 32768) (2 ^ (1 + a1 % 17).toNat) (by omega)
  by_cases h1 : -(2 ^ ((1 + a1 % 17).toNat - 1)) ≤ a0 - 32768
  · by_cases h2 : a0 - 32768 < 2 ^ ((1 + a1 % 17).toNat - 1)
    · have b1 := beq_iff_eq.2 (Ma.sg_mod (a0 - 32768) _ _ e1 h1 h2)
      have h3 : -(2 ^ (1 + a1 % 17).toNat) ≤ a0 - 32768 := by omega
      have h4 : a0 - 32768 < 2 ^ (1 + a1 % 17).toNat := by omega
      have r1 : -(2 ^ ((1 + a1 % 17 + 1).toNat - 1)) ≤ a0 - 32768 := by rw [show (1 + a1 % 17 + 1).toNat - 1 = (1 + a1 % 17).toNat by omega]; exact h3
      have r2 : a0 - 32768 < 2 ^ ((1 + a1 % 17 + 1).toNat - 1) := by rw [show (1 + a1 % 17 + 1).toNat - 1 = (1 + a1 % 17).toNat by omega]; exact h4
      have W1 := Lib.hid (fun w => wrap_yes (a0 - 32768) (1 + a1 % 17) w (by omega) (by omega) h1 h2)
      have W2 := Lib.hid (fun w => wrap_yes (a0 - 32768) (1 + a1 % 17 + 1) w (by omega) (by omega) r1 r2)
      have F1 := Lib.hid (fun w => fits_yes (a0 - 32768) (1 + a1 % 17) w (by omega) (by omega) h1 h2)
      have S1 := Lib.hid (fun w => sign_yes ((a0 - 32768) % 2 ^ (1 + a1 % 17).toNat) (1 + a1 % 17) w (by omega) (by omega) m1 m2)
      clear r1 r2
      by_cases hneg : a0 - 32768 < 0
      · have b2 := beq_iff_eq.2 (Ma.mod_twice_neg (a0 - 32768) _ _ e2 h3 hneg)
        clear e1 e2 e0
        go_enter Try.func4, Try.ntmps4
        go_wp2_with (first | (go_at_call 13; (first | (with_reducible refine (W1.out _).mono ?_) | (with_reducible refine (W2.out _).mono ?_)); rintro e w' ⟨rfl, m, rfl⟩) | (go_at_call 14; with_reducible refine (F1.out _).mono ?_; rintro e w' ⟨rfl, m, rfl⟩) | (go_at_call 15; with_reducible refine (S1.out _).mono ?_; rintro e w' ⟨rfl, m, rfl⟩) | (go_at_call 12; refine (sane_any _).mono ?_; rintro e w1 ⟨rfl, hb⟩))
        go_ret
        exact ⟨rfl, Buf.of_drewN hb⟩
      · have b2 := beq_iff_eq.2 (Ma.mod_twice_pos (a0 - 32768) _ _ e2 (by omega) h4)
        clear e1 e2 e0
        go_enter Try.func4, Try.ntmps4
        go_wp2_with (first | (go_at_call 13; (first | (with_reducible refine (W1.out _).mono ?_) | (with_reducible refine (W2.out _).mono ?_)); rintro e w' ⟨rfl, m, rfl⟩) | (go_at_call 14; with_reducible refine (F1.out _).mono ?_; rintro e w' ⟨rfl, m, rfl⟩) | (go_at_call 15; with_reducible refine (S1.out _).mono ?_; rintro e w' ⟨rfl, m, rfl⟩) | (go_at_call 12; refine (sane_any _).mono ?_; rintro e w1 ⟨rfl, hb⟩))
        go_ret
        exact ⟨rfl, Buf.of_drewN hb⟩
    · have h5 : ¬ a0 - 32768 < -(2 ^ ((1 + a1 % 17).toNat - 1)) := by omega
      have W1 := Lib.hid (fun w => wrap_no (a0 - 32768) (1 + a1 % 17) w (by omega))
      have F1 := Lib.hid (fun w => fits_no (a0 - 32768) (1 + a1 % 17) w (by omega))
      have F0 := Lib.hid (fun w => fits_no (a0 - 32768) (1 + a1 % 17 - 1) w (by omega))
      clear e1 e2 e0 q1 q2
      go_enter Try.func4, Try.ntmps4
      go_wp2_with (first | (go_at_call 13; with_reducible refine (W1.out _).mono ?_; rintro e w' ⟨rfl, m, rfl⟩) | (go_at_call 14; (first | (with_reducible refine (F1.out _).mono ?_) | (with_reducible refine (F0.out _).mono ?_)); rintro e w' ⟨rfl, m, rfl⟩) | (go_at_call 12; refine (sane_any _).mono ?_; rintro e w1 ⟨rfl, hb⟩))
      go_ret
      exact ⟨rfl, Buf.of_drewN hb⟩
  · have W1 := Lib.hid (fun w => wrap_no (a0 - 32768) (1 + a1 % 17) w (by omega))
    have F1 := Lib.hid (fun w => fits_no (a0 - 32768) (1 + a1 % 17) w (by omega))
    have F0 := Lib.hid (fun w => fits_no (a0 - 32768) (1 + a1 % 17 - 1) w (by omega))
    clear e1 e2 e0 q1 q2
    go_enter Try.func4, Try.ntmps4
    go_wp2_with (first | (go_at_call 13; with_reducible refine (W1.out _).mono ?_; rintro e w' ⟨rfl, m, rfl⟩) | (go_at_call 14; (first | (with_reducible refine (F1.out _).mono ?_) | (with_reducible refine (F0.out _).mono ?_)); rintro e w' ⟨rfl, m, rfl⟩) | (go_at_call 12; refine (sane_any _).mono ?_; rintro e w1 ⟨rfl, hb⟩))
    go_ret
    exact ⟨rfl, Buf.of_drewN hb⟩
end Laws
end Go.Proofs.Ytmkcheiidhppbab
