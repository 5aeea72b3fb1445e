/- The walk of BitsBack. -/
import Derived.Test.YtmkcheiidhppbaaSane04
import Derived.Test.YtmkcheiidhppbaaGet
namespace Go.Proofs.Ytmkcheiidhppbaa
open Go.RowKit Bits
namespace Laws
set_option maxHeartbeats 400000 in
set_option maxRecDepth 100000 in
theorem bitsBack_walk (a0 : ByteArray) (a1 a2 : Int) (w0 : a0.size ≤ 140737488351232) (w1 : (Lit.int .u32 a1).wf = true) (w2 : (Lit.int .u8 a2).wf = true) (w : World) :
    Calls Try.prog 14 #[.string a0, .int .u32 a1, .int .u8 a2] w fun e w' => e = .returned (.bool true) ∧ Below w.heap.size w w' := by
  obtain ⟨u1, u1'⟩ := Ma.wf_u32 w1
  obtain ⟨u2, u2'⟩ := Ma.wf_u8 w2
  clear w1 w2
  by_cases hl : 200 < a0.size
  · go_enter Try.func14, Try.ntmps14
    go_wp2_with (go_at_call 61; refine (sane_any _).mono ?_; rintro e w1 ⟨rfl, hb⟩)
    go_ret
    exact ⟨rfl, hb⟩
  · obtain ⟨d, hd⟩ : ∃ d : Nat, (d : Int) = 4 + a2 % 4 := ⟨(4 + a2 % 4).toNat, by omega⟩
    obtain ⟨n, rfl⟩ := Int.eq_ofNat_of_zero_le u1
    have d4 : 4 ≤ d := by omega
    have d7 : d ≤ 7 := by omega
    have hn : n < 2 ^ (8 * d) := Nat.lt_of_lt_of_le (show n < 2 ^ 32 by omega) (Nat.pow_le_pow_right (by decide) (by omega))
    obtain ⟨p, hp⟩ : ∃ p, p = Ma.cat a0 (Ma.beTo n d 0) := ⟨_, rfl⟩
    have hps : p.size = a0.size + d := by rw [hp, Ma.cat_size, Ma.beTo_length]; rfl
    have P1 : Hid (∀ w, Calls Try.prog 62 #[.string a0, .int .i64 n, .int .i64 (4 + a2 % 4)] w fun e w' => e = .returned (.tuple #[.string p, .int .i64 0]) ∧ Below w.heap.size w w') := by
      rw [← hd, hp]; exact fun w => put_yes a0 n d w (by omega) (by omega) d7 hn
    have G1 : Hid (∀ w, Calls Try.prog 64 #[.string (p ++ a0), .int .i64 a0.size, .int .i64 (4 + a2 % 4)] w fun e w' => e = .returned (.tuple #[.int .i64 n, .int .i64 0]) ∧ ∃ m, w' = w.drewN m) := by
      intro w
      have h := get_ok (p ++ a0) a0.size d w (by simp; omega) (by omega) d7 (by simp; omega)
      rw [hp, Ma.get_put a0 n d hn, ← hp, hd] at h
      exact h
    have hx1 : -1073741824 ≤ (n : Int) / 2 - 1073741824 := by omega
    have hx2 : (n : Int) / 2 - 1073741824 < 1073741824 := by omega
    obtain ⟨q1, q2⟩ := Ma.pow_bd 31 ((8 * (4 + a2 % 4)).toNat - 1) (by omega)
    have q2 : (2147483648 : Int) ≤ 2 ^ ((8 * (4 + a2 % 4)).toNat - 1) := q2
    have e1 := Ma.pow_half (8 * (4 + a2 % 4)).toNat (by omega)
    have W1 := Lib.hid (fun w => wrap_yes ((n : Int) / 2 - 1073741824) (8 * (4 + a2 % 4)) w (by omega) (by omega) (by omega) (by omega))
    obtain ⟨m1, m2⟩ := Ma.mod_bd ((n : Int) / 2 - 1073741824) (2 ^ (8 * (4 + a2 % 4)).toNat) (by omega)
    have S1 := Lib.hid (fun w => sign_yes (((n : Int) / 2 - 1073741824) % 2 ^ (8 * (4 + a2 % 4)).toNat) (8 * (4 + a2 % 4)) w (by omega) (by omega) m1 m2)
    have b1 := beq_iff_eq.2 (Ma.sg_mod ((n : Int) / 2 - 1073741824) _ _ e1 (by omega) (by omega))
    have b2 : ((p.size : Int) == (a0.size : Int) + (4 + a2 % 4)) = true := by rw [beq_iff_eq, hps, ← hd]; omega
    have hpl : p.size + a0.size ≤ 1000 := by omega
    clear hd hp hps e1 q1 q2 hn
    go_enter Try.func14, Try.ntmps14
    go_wp2_with (first | (go_at_call 62; with_reducible refine (P1.out _).mono ?_; rintro e w1 ⟨rfl, hb⟩) | (go_at_call 64; with_reducible refine (G1.out _).mono ?_; rintro e w' ⟨rfl, m, rfl⟩) | (go_at_call 66; with_reducible refine (W1.out _).mono ?_; rintro e w' ⟨rfl, m, rfl⟩) | (go_at_call 68; with_reducible refine (S1.out _).mono ?_; rintro e w' ⟨rfl, m, rfl⟩) | (go_at_call 61; refine (sane_any _).mono ?_; rintro e w2 ⟨rfl, hb2⟩))
    go_ret
    exact ⟨rfl, Buf.then_ hb (Buf.of_drewN hb2)⟩
end Laws
end Go.Proofs.Ytmkcheiidhppbaa
