/- The walk of LogarithmGrows. -/
import Derived.Test.YtohjdklbdkpmjaaLogM
import Derived.Test.YtohjdklbdkpmjaaSrc
namespace Go.Proofs.Ytohjdklbdkpmjaa
open Go.RowKit Log
namespace Laws
theorem dg_mono (j : Nat) (m m' : Int) (h0 : 0 ≤ m) (h : m ≤ m') : 0 ≤ (dg j m).1 ∧ ((dg j m).2 < (dg j m').2 ∨ (dg j m).2 = (dg j m').2 ∧ (dg j m).1 ≤ (dg j m').1) := by
  induction j with
  | zero => exact ⟨h0, .inr ⟨rfl, h⟩⟩
  | succ j ih =>
    obtain ⟨p0, hc⟩ := ih
    show 0 ≤ stepM _ ∧ (stepD _ _ < stepD _ _ ∨ stepD _ _ = stepD _ _ ∧ stepM _ ≤ stepM _)
    generalize (dg j m).1 = x at *
    generalize (dg j m).2 = d at *
    generalize (dg j m').1 = x' at *
    generalize (dg j m').2 = d' at *
    have sq0 : 0 ≤ x * x := Int.mul_nonneg p0 p0
    rcases hc with hc | ⟨rfl, hx⟩
    · unfold stepM stepD
      refine ⟨by split <;> omega, .inl ?_⟩
      split <;> split <;> omega
    · have sq1 : x * x ≤ x' * x' := Int.mul_le_mul hx hx p0 (by omega)
      have q0 : 0 ≤ x * x / 1073741824 := by omega
      have q1 : x * x / 1073741824 ≤ x' * x' / 1073741824 := by omega
      unfold stepM stepD
      generalize x * x / 1073741824 = q at *
      generalize x' * x' / 1073741824 = q' at *
      refine ⟨?_, ?_⟩
      · split <;> omega
      · split <;> split <;> omega
theorem mant_mono (n n' : Int) (k : Nat) (h : n ≤ n') : mant n k ≤ mant n' k := by
  unfold mant
  split
  · exact Int.mul_le_mul_of_nonneg_right h (Int.le_of_lt (Int.pow_pos (by decide)))
  · exact Int.ediv_le_ediv (Int.pow_pos (by decide)) h
theorem lg_mono (a b : Int) (ka kb : Nat) (ya yb : Int) (ha : LG a ka ya) (hb : LG b kb yb) (h : a ≤ b) : 256 * (ka : Int) + ya ≤ 256 * kb + yb := by
  have hk : ka ≤ kb := by
    by_cases hk : ka ≤ kb
    · exact hk
    · have := (Ma.pow_bd (kb + 1) ka (by omega)).2
      have := ha.lo
      have := hb.hi
      omega
  by_cases he : ka = kb
  · subst he
    have h0 := (mant_bd a ka ha.lo ha.hi).1
    have := dg_mono 8 (mant a ka) (mant b ka) (by omega) (mant_mono a b ka h)
    have e1 := ha.y
    have e2 := hb.y
    omega
  · have := ha.y1
    have := hb.y0
    omega
theorem mant_double (n : Int) (k : Nat) : mant (2 * n) (k + 1) = mant n k := by
  unfold mant
  by_cases h : k + 1 ≤ 30
  · rw [if_pos h, if_pos (by omega), show 30 - k = (30 - (k + 1)) + 1 by omega, Int.pow_succ]
    generalize (2 : Int) ^ (30 - (k + 1)) = Z
    rw [Int.mul_comm 2 n, Int.mul_assoc, Int.mul_comm 2 Z]
  · rw [if_neg h]
    by_cases h2 : k ≤ 30
    · obtain rfl : k = 30 := by omega
      rw [if_pos (by omega)]
      show 2 * n / 2 = n * 1
      omega
    · rw [if_neg h2, show k + 1 - 30 = (k - 30) + 1 by omega, Int.pow_succ, Int.mul_comm (2 ^ (k - 30)) 2, Int.mul_ediv_mul_of_pos _ _ (by decide)]
theorem k_unique (n : Int) (k k' : Nat) (h0 : 2 ^ k ≤ n) (h1 : n < 2 ^ (k + 1)) (h2 : 2 ^ k' ≤ n) (h3 : n < 2 ^ (k' + 1)) : k = k' := by
  rcases Nat.lt_trichotomy k k' with h | h | h
  · have := (Ma.pow_bd (k + 1) k' (by omega)).2; omega
  · exact h
  · have := (Ma.pow_bd (k' + 1) k (by omega)).2; omega
theorem lg_double (a b : Int) (ka kb : Nat) (ya yb : Int) (ha : LG a ka ya) (hb : LG b kb yb) (h : b = 2 * a) : 256 * (kb : Int) + yb = 256 * ka + ya + 256 := by
  subst h
  have e : kb = ka + 1 := by
    refine k_unique (2 * a) kb (ka + 1) hb.lo hb.hi ?_ ?_
    · have := ha.lo; rw [Int.pow_succ]; omega
    · have := ha.hi; rw [Int.pow_succ (2 : Int) (ka + 1)]; omega
  subst e
  have e1 := ha.y
  have e2 := hb.y
  rw [mant_double] at e2
  omega
theorem dg_one (j : Nat) : dg j 1073741824 = (1073741824, 0) := by
  induction j with
  | zero => rfl
  | succ j ih =>
    show (stepM (dg j _).1, stepD (dg j _).1 (dg j _).2) = _
    rw [ih]; rfl
theorem lg_two (k kb : Nat) (yb : Int) (hb : LG (2 ^ k) kb yb) : kb = k ∧ yb = 0 := by
  have e : kb = k := by
    refine k_unique (2 ^ k) kb k hb.lo hb.hi (Int.le_refl _) ?_
    rw [Int.pow_succ]; have := (Ma.pow_bd k k (Nat.le_refl _)).1; omega
  subst e
  refine ⟨rfl, ?_⟩
  have hm : mant (2 ^ kb) kb = 1073741824 := by
    unfold mant
    by_cases h : kb ≤ 30
    · rw [if_pos h, ← Int.pow_add, show kb + (30 - kb) = 30 by omega]; rfl
    · rw [if_neg h]
      have e : (2 : Int) ^ kb = 2 ^ 30 * 2 ^ (kb - 30) := by rw [← Int.pow_add, show 30 + (kb - 30) = kb by omega]
      rw [e, Int.mul_ediv_cancel _ (Int.ne_of_gt (Int.pow_pos (by decide)))]; rfl
  rw [hb.y, hm, dg_one]
set_option maxHeartbeats 4000000 in
theorem logarithmGrows_walk (a0 : Int) (a1 : Int) (a2 : Option Addr) (len2 cap2 : Nat) (z2 : List Int) (w : World) (_w0 : (Lit.int .i64 a0).wf = true) (_w1 : (Lit.int .i64 a1).wf = true) (w2 : Buf.IsRow .i64 w a2 len2 cap2 z2) :
    Calls Try.prog 5 #[.int .i64 a0, .int .i64 a1, .slice a2 len2 cap2] w fun e w' => e = .returned (.bool true) ∧ Below w.heap.size w w' := by
  have m0 : 0 ≤ a0 % 1152921504606846976 := by omega
  have m1 : a0 % 1152921504606846976 < 1152921504606846976 := by omega
  have n0 : 0 ≤ a1 % 1152921504606846976 := by omega
  have n1 : a1 % 1152921504606846976 < 1152921504606846976 := by omega
  have M : Hid (∀ w, Calls Try.prog 9 #[.int .i64 a0, .int .i64 1152921504606846976] w fun e w' => e = .returned (.int .i64 (a0 % 1152921504606846976)) ∧ w' = w) := Lib.hid fun w => Keep.mod_any a0 1152921504606846976 w (by omega) (by omega)
  have N : Hid (∀ w, Calls Try.prog 9 #[.int .i64 a1, .int .i64 1152921504606846976] w fun e w' => e = .returned (.int .i64 (a1 % 1152921504606846976)) ∧ w' = w) := Lib.hid fun w => Keep.mod_any a1 1152921504606846976 w (by omega) (by omega)
  generalize a0 % 1152921504606846976 = x at *
  generalize a1 % 1152921504606846976 = y at *
  go_enter Try.func5, Try.ntmps5
  go_wp2_with (first
    | (go_at_call 14; refine (Src.new_any _ _ _ _ _ w2).mono ?_; rintro e w1 ⟨rfl, len, hdi⟩)
    | (go_at_call 9; (first | with_reducible refine (M.out _).mono ?_ | with_reducible refine (N.out _).mono ?_); rintro e w3 ⟨rfl, rfl⟩))
  refine (Src.n_any 2 hdi (by omega) (by omega)).mono ?_
  rintro e w3 ⟨⟨v, rfl, v0, v1⟩, hl⟩
  by_cases hv : v = 0
  · subst hv
    go_wp2_with fail
    refine (Src.n_any 9 hl.di (by omega) (by omega)).mono ?_
    rintro e w5 ⟨⟨u, rfl, u0, u1⟩, hl5⟩
    replace hl := hl.trans hl5
    clear hl5 hdi
    have hab : 1 + x ≤ 1 + x + 1 + u := by omega
    obtain ⟨ka, ya, ha⟩ := lg_of (1 + x) (by omega) (by omega)
    obtain ⟨kb, yb, hb⟩ := lg_of (1 + x + 1 + u) (by omega) (by omega)
    obtain ⟨kc, yc, hc⟩ := lg_of (2 * (1 + x)) (by omega) (by omega)
    have s1 := lg_mono _ _ ka kb ya yb ha hb hab
    have s2 := lg_double _ _ ka kc ya yc ha hc rfl
    have s3 := s2
    replace s2 : 256 * (kc : Int) + yc ≤ 256 * ka + ya + 256 := by omega
    replace s3 : 256 * (ka : Int) + ya + 256 ≤ 256 * kc + yc := by omega
    have A := Lib.hid ha.calls
    have B := Lib.hid hb.calls
    have C := Lib.hid hc.calls
    obtain ⟨qa, z1a, z2a, ga, ga', z3a, z4a⟩ := ha
    obtain ⟨qb, z1b, z2b, gb, gb', z3b, z4b⟩ := hb
    obtain ⟨qc, z1c, z2c, gc, gc', z3c, z4c⟩ := hc
    clear z1a z2a z3a z4a z1b z2b z3b z4b z1c z2c z3c z4c
    go_wp2_with (go_at_call 13; (first | with_reducible refine (A.out _).mono ?_ | with_reducible refine (B.out _).mono ?_ | with_reducible refine (C.out _).mono ?_); rintro e w8 ⟨rfl, rfl⟩)
    refine (Src.n_any 62 hl.di (by omega) (by omega)).mono ?_
    rintro e w9 ⟨⟨k, rfl, k0, k1⟩, hl9⟩
    obtain ⟨k, rfl⟩ := Int.eq_ofNat_of_zero_le k0
    obtain ⟨kd, yd, hd⟩ := lg_of (2 ^ k) (Ma.pow_bd k k (Nat.le_refl _)).1 (Int.le_trans (Ma.pow_bd k 61 (by omega)).2 (by decide))
    obtain ⟨rfl, rfl⟩ := lg_two k kd yd hd
    have p0 : (1 : Int) ≤ 2 ^ kd := (Ma.pow_bd kd kd (Nat.le_refl _)).1
    have p1 : (2 : Int) ^ kd ≤ 2305843009213693952 := (Ma.pow_bd kd 61 (by omega)).2
    have D : Hid (∀ w, Calls Try.prog 13 #[.int .i64 (2 ^ kd)] w fun e w' => e = .returned (.tuple #[.int .i64 (256 * kd), .int .i64 0]) ∧ w' = w) := Lib.hid (by simpa using hd.calls)
    have hbel := Lib.hid hl9.di.bel
    clear hd hl hl9
    go_wp2_with (first
      | (go_at_call 13; with_reducible refine (D.out _).mono ?_; rintro e w8 ⟨rfl, rfl⟩)
      | (go_at_call 12; refine (awake_any _).mono ?_; rintro e w7 ⟨rfl, hb⟩))
    go_ret
    exact ⟨rfl, Buf.then_ hbel.out hb⟩
  · obtain rfl : v = 1 := by omega
    clear hdi
    rcases Int.lt_trichotomy x y with hxy | rfl | hxy
    · have hab : 1 + x ≤ 1 + y := by omega
      obtain ⟨ka, ya, ha⟩ := lg_of (1 + x) (by omega) (by omega)
      obtain ⟨kb, yb, hb⟩ := lg_of (1 + y) (by omega) (by omega)
      obtain ⟨kc, yc, hc⟩ := lg_of (2 * (1 + x)) (by omega) (by omega)
      have s1 := lg_mono _ _ ka kb ya yb ha hb hab
      have s2 := lg_double _ _ ka kc ya yc ha hc rfl
      have s3 := s2
      replace s2 : 256 * (kc : Int) + yc ≤ 256 * ka + ya + 256 := by omega
      replace s3 : 256 * (ka : Int) + ya + 256 ≤ 256 * kc + yc := by omega
      have A := Lib.hid ha.calls
      have B := Lib.hid hb.calls
      have C := Lib.hid hc.calls
      obtain ⟨qa, z1a, z2a, ga, ga', z3a, z4a⟩ := ha
      obtain ⟨qb, z1b, z2b, gb, gb', z3b, z4b⟩ := hb
      obtain ⟨qc, z1c, z2c, gc, gc', z3c, z4c⟩ := hc
      clear z1a z2a z3a z4a z1b z2b z3b z4b z1c z2c z3c z4c
      go_wp2_with (go_at_call 13; (first | with_reducible refine (A.out _).mono ?_ | with_reducible refine (B.out _).mono ?_ | with_reducible refine (C.out _).mono ?_); rintro e w8 ⟨rfl, rfl⟩)
      refine (Src.n_any 62 hl.di (by omega) (by omega)).mono ?_
      rintro e w9 ⟨⟨k, rfl, k0, k1⟩, hl9⟩
      obtain ⟨k, rfl⟩ := Int.eq_ofNat_of_zero_le k0
      obtain ⟨kd, yd, hd⟩ := lg_of (2 ^ k) (Ma.pow_bd k k (Nat.le_refl _)).1 (Int.le_trans (Ma.pow_bd k 61 (by omega)).2 (by decide))
      obtain ⟨rfl, rfl⟩ := lg_two k kd yd hd
      have p0 : (1 : Int) ≤ 2 ^ kd := (Ma.pow_bd kd kd (Nat.le_refl _)).1
      have p1 : (2 : Int) ^ kd ≤ 2305843009213693952 := (Ma.pow_bd kd 61 (by omega)).2
      have D : Hid (∀ w, Calls Try.prog 13 #[.int .i64 (2 ^ kd)] w fun e w' => e = .returned (.tuple #[.int .i64 (256 * kd), .int .i64 0]) ∧ w' = w) := Lib.hid (by simpa using hd.calls)
      have hbel := Lib.hid hl9.di.bel
      clear hd hl hl9
      go_wp2_with (first
        | (go_at_call 13; with_reducible refine (D.out _).mono ?_; rintro e w8 ⟨rfl, rfl⟩)
        | (go_at_call 12; refine (awake_any _).mono ?_; rintro e w7 ⟨rfl, hb⟩))
      go_ret
      exact ⟨rfl, Buf.then_ hbel.out hb⟩
    · have hab : 1 + x ≤ 1 + x := by omega
      obtain ⟨ka, ya, ha⟩ := lg_of (1 + x) (by omega) (by omega)
      obtain ⟨kb, yb, hb⟩ := lg_of (1 + x) (by omega) (by omega)
      obtain ⟨kc, yc, hc⟩ := lg_of (2 * (1 + x)) (by omega) (by omega)
      have s1 := lg_mono _ _ ka kb ya yb ha hb hab
      have s2 := lg_double _ _ ka kc ya yc ha hc rfl
      have s3 := s2
      replace s2 : 256 * (kc : Int) + yc ≤ 256 * ka + ya + 256 := by omega
      replace s3 : 256 * (ka : Int) + ya + 256 ≤ 256 * kc + yc := by omega
      have A := Lib.hid ha.calls
      have B := Lib.hid hb.calls
      have C := Lib.hid hc.calls
      obtain ⟨qa, z1a, z2a, ga, ga', z3a, z4a⟩ := ha
      obtain ⟨qb, z1b, z2b, gb, gb', z3b, z4b⟩ := hb
      obtain ⟨qc, z1c, z2c, gc, gc', z3c, z4c⟩ := hc
      clear z1a z2a z3a z4a z1b z2b z3b z4b z1c z2c z3c z4c
      go_wp2_with (go_at_call 13; (first | with_reducible refine (A.out _).mono ?_ | with_reducible refine (B.out _).mono ?_ | with_reducible refine (C.out _).mono ?_); rintro e w8 ⟨rfl, rfl⟩)
      refine (Src.n_any 62 hl.di (by omega) (by omega)).mono ?_
      rintro e w9 ⟨⟨k, rfl, k0, k1⟩, hl9⟩
      obtain ⟨k, rfl⟩ := Int.eq_ofNat_of_zero_le k0
      obtain ⟨kd, yd, hd⟩ := lg_of (2 ^ k) (Ma.pow_bd k k (Nat.le_refl _)).1 (Int.le_trans (Ma.pow_bd k 61 (by omega)).2 (by decide))
      obtain ⟨rfl, rfl⟩ := lg_two k kd yd hd
      have p0 : (1 : Int) ≤ 2 ^ kd := (Ma.pow_bd kd kd (Nat.le_refl _)).1
      have p1 : (2 : Int) ^ kd ≤ 2305843009213693952 := (Ma.pow_bd kd 61 (by omega)).2
      have D : Hid (∀ w, Calls Try.prog 13 #[.int .i64 (2 ^ kd)] w fun e w' => e = .returned (.tuple #[.int .i64 (256 * kd), .int .i64 0]) ∧ w' = w) := Lib.hid (by simpa using hd.calls)
      have hbel := Lib.hid hl9.di.bel
      clear hd hl hl9
      go_wp2_with (first
        | (go_at_call 13; with_reducible refine (D.out _).mono ?_; rintro e w8 ⟨rfl, rfl⟩)
        | (go_at_call 12; refine (awake_any _).mono ?_; rintro e w7 ⟨rfl, hb⟩))
      go_ret
      exact ⟨rfl, Buf.then_ hbel.out hb⟩
    · have hab : 1 + y ≤ 1 + x := by omega
      obtain ⟨ka, ya, ha⟩ := lg_of (1 + y) (by omega) (by omega)
      obtain ⟨kb, yb, hb⟩ := lg_of (1 + x) (by omega) (by omega)
      obtain ⟨kc, yc, hc⟩ := lg_of (2 * (1 + y)) (by omega) (by omega)
      have s1 := lg_mono _ _ ka kb ya yb ha hb hab
      have s2 := lg_double _ _ ka kc ya yc ha hc rfl
      have s3 := s2
      replace s2 : 256 * (kc : Int) + yc ≤ 256 * ka + ya + 256 := by omega
      replace s3 : 256 * (ka : Int) + ya + 256 ≤ 256 * kc + yc := by omega
      have A := Lib.hid ha.calls
      have B := Lib.hid hb.calls
      have C := Lib.hid hc.calls
      obtain ⟨qa, z1a, z2a, ga, ga', z3a, z4a⟩ := ha
      obtain ⟨qb, z1b, z2b, gb, gb', z3b, z4b⟩ := hb
      obtain ⟨qc, z1c, z2c, gc, gc', z3c, z4c⟩ := hc
      clear z1a z2a z3a z4a z1b z2b z3b z4b z1c z2c z3c z4c
      go_wp2_with (go_at_call 13; (first | with_reducible refine (A.out _).mono ?_ | with_reducible refine (B.out _).mono ?_ | with_reducible refine (C.out _).mono ?_); rintro e w8 ⟨rfl, rfl⟩)
      refine (Src.n_any 62 hl.di (by omega) (by omega)).mono ?_
      rintro e w9 ⟨⟨k, rfl, k0, k1⟩, hl9⟩
      obtain ⟨k, rfl⟩ := Int.eq_ofNat_of_zero_le k0
      obtain ⟨kd, yd, hd⟩ := lg_of (2 ^ k) (Ma.pow_bd k k (Nat.le_refl _)).1 (Int.le_trans (Ma.pow_bd k 61 (by omega)).2 (by decide))
      obtain ⟨rfl, rfl⟩ := lg_two k kd yd hd
      have p0 : (1 : Int) ≤ 2 ^ kd := (Ma.pow_bd kd kd (Nat.le_refl _)).1
      have p1 : (2 : Int) ^ kd ≤ 2305843009213693952 := (Ma.pow_bd kd 61 (by omega)).2
      have D : Hid (∀ w, Calls Try.prog 13 #[.int .i64 (2 ^ kd)] w fun e w' => e = .returned (.tuple #[.int .i64 (256 * kd), .int .i64 0]) ∧ w' = w) := Lib.hid (by simpa using hd.calls)
      have hbel := Lib.hid hl9.di.bel
      clear hd hl hl9
      go_wp2_with (first
        | (go_at_call 13; with_reducible refine (D.out _).mono ?_; rintro e w8 ⟨rfl, rfl⟩)
        | (go_at_call 12; refine (awake_any _).mono ?_; rintro e w7 ⟨rfl, hb⟩))
      go_ret
      exact ⟨rfl, Buf.then_ hbel.out hb⟩
end Laws
end Go.Proofs.Ytohjdklbdkpmjaa
