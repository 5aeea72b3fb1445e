/- Rates at any input: validity, times and checks, of the program and of the reference. -/
import Derived.Test.YtgckppkfpccanaaRate
import Derived.Test.YtgckppkfpccanaaRateBN
import Derived.OwnWalk
namespace Go.Proofs.Ytgckppkfpccanaa
open Go.RowKit Dice
namespace Rate
set_option linter.unusedVariables false
theorem valid_no (n d : Int) (h : ¬ RV n d) (w : World) :
    Calls Try.prog 11 #[.agg #[.int .i64 n, .int .i64 d]] w fun e w' => e = .returned (.bool false) ∧ Below w.heap.size w w' := by
  by_cases hn : 1 ≤ n ∧ n ≤ 4096
  · obtain ⟨n1, n2⟩ := hn
    by_cases hd : 1 ≤ d ∧ d ≤ 4096
    · obtain ⟨d1, d2⟩ := hd
      have hg : Nat.gcd n.toNat d.toNat ≠ 1 := fun hc => h ⟨n1, n2, d1, d2, hc⟩
      obtain ⟨g, hgd⟩ : ∃ g, Nat.gcd n.toNat d.toNat = g := ⟨_, rfl⟩
      rw [hgd] at hg
      have G : Hid (∀ w, Calls Try.prog 31 #[.int .i64 n, .int .i64 d] w fun e w' => e = .returned (.int .i64 (g : Nat)) ∧ ∃ m, w' = w.drewN m) := by
        intro w
        have := divisor_any n.toNat d.toNat w (by omega) (by omega)
        rw [hgd, Int.toNat_of_nonneg (by omega), Int.toNat_of_nonneg (by omega)] at this
        exact this
      obtain ⟨z, hz⟩ : ∃ z : Int, z = (g : Nat) := ⟨_, rfl⟩
      have hq : (z == 1) = false := by rw [beq_eq_false_iff_ne]; omega
      rw [← hz] at G
      clear hgd h hg hz
      go_enter Try.func11, Try.ntmps11
      go_wp2_with (first | (go_at_call 30; refine (within_yes _ _ _ _ (by omega) (by omega)).mono ?_; rintro e w' ⟨rfl, m, rfl⟩) | (go_at_call 30; refine (within_no _ _ _ _ (by omega)).mono ?_; rintro e w' ⟨rfl, m, rfl⟩) | (go_at_call 31; with_reducible refine (G.out _).mono ?_; rintro e w' ⟨rfl, m, rfl⟩))
      go_ret
      exact ⟨rfl, Buf.below_drewN ((Below.refl _ _).alloc (Nat.le_refl _) _) _⟩
    · have hd' : d < 1 ∨ 4096 < d := by omega
      clear hd h
      go_enter Try.func11, Try.ntmps11
      go_wp2_with (first | (go_at_call 30; refine (within_yes _ _ _ _ (by omega) (by omega)).mono ?_; rintro e w' ⟨rfl, m, rfl⟩) | (go_at_call 30; refine (within_no _ _ _ _ (by omega)).mono ?_; rintro e w' ⟨rfl, m, rfl⟩))
      go_ret
      exact ⟨rfl, Buf.below_drewN ((Below.refl _ _).alloc (Nat.le_refl _) _) _⟩
  · have hn' : n < 1 ∨ 4096 < n := by omega
    clear hn h
    go_enter Try.func11, Try.ntmps11
    go_wp2_with (first | (go_at_call 30; refine (within_yes _ _ _ _ (by omega) (by omega)).mono ?_; rintro e w' ⟨rfl, m, rfl⟩) | (go_at_call 30; refine (within_no _ _ _ _ (by omega)).mono ?_; rintro e w' ⟨rfl, m, rfl⟩))
    go_ret
    exact ⟨rfl, Buf.below_drewN ((Below.refl _ _).alloc (Nat.le_refl _) _) _⟩
theorem refvalid_yes (n d : Int) (h : RV n d) (w : World) :
    Calls Try.prog 12 #[.agg #[.int .i64 n, .int .i64 d]] w fun e w' => e = .returned (.bool true) ∧ Below w.heap.size w w' := by
  obtain ⟨n1, n2, d1, d2, co⟩ := h
  have G : Hid (∀ w, Calls Try.prog 33 #[.int .i64 n, .int .i64 d] w fun e w' => e = .returned (.int .i64 1) ∧ ∃ m, w' = w.drewN m) := by
    intro w
    have := gcd_any n.toNat d.toNat w (by omega) (by omega)
    rw [co, Int.toNat_of_nonneg (by omega), Int.toNat_of_nonneg (by omega)] at this
    exact this
  clear co
  go_enter Try.func12, Try.ntmps12
  go_wp2_with (first | (go_at_call 32; refine (in_yes _ _ _ _ (by omega) (by omega)).mono ?_; rintro e w' ⟨rfl, m, rfl⟩) | (go_at_call 33; with_reducible refine (G.out _).mono ?_; rintro e w' ⟨rfl, m, rfl⟩))
  go_ret
  exact ⟨rfl, Buf.below_drewN ((Below.refl _ _).alloc (Nat.le_refl _) _) _⟩
theorem refvalid_no (n d : Int) (h : ¬ RV n d) (w : World) :
    Calls Try.prog 12 #[.agg #[.int .i64 n, .int .i64 d]] w fun e w' => e = .returned (.bool false) ∧ Below w.heap.size w w' := by
  by_cases hn : 1 ≤ n ∧ n ≤ 4096
  · obtain ⟨n1, n2⟩ := hn
    by_cases hd : 1 ≤ d ∧ d ≤ 4096
    · obtain ⟨d1, d2⟩ := hd
      have hg : Nat.gcd n.toNat d.toNat ≠ 1 := fun hc => h ⟨n1, n2, d1, d2, hc⟩
      obtain ⟨g, hgd⟩ : ∃ g, Nat.gcd n.toNat d.toNat = g := ⟨_, rfl⟩
      rw [hgd] at hg
      have G : Hid (∀ w, Calls Try.prog 33 #[.int .i64 n, .int .i64 d] w fun e w' => e = .returned (.int .i64 (g : Nat)) ∧ ∃ m, w' = w.drewN m) := by
        intro w
        have := gcd_any n.toNat d.toNat w (by omega) (by omega)
        rw [hgd, Int.toNat_of_nonneg (by omega), Int.toNat_of_nonneg (by omega)] at this
        exact this
      obtain ⟨z, hz⟩ : ∃ z : Int, z = (g : Nat) := ⟨_, rfl⟩
      have hq : (z == 1) = false := by rw [beq_eq_false_iff_ne]; omega
      rw [← hz] at G
      clear hgd h hg hz
      go_enter Try.func12, Try.ntmps12
      go_wp2_with (first | (go_at_call 32; refine (in_yes _ _ _ _ (by omega) (by omega)).mono ?_; rintro e w' ⟨rfl, m, rfl⟩) | (go_at_call 32; refine (in_no _ _ _ _ (by omega)).mono ?_; rintro e w' ⟨rfl, m, rfl⟩) | (go_at_call 33; with_reducible refine (G.out _).mono ?_; rintro e w' ⟨rfl, m, rfl⟩))
      go_ret
      exact ⟨rfl, Buf.below_drewN ((Below.refl _ _).alloc (Nat.le_refl _) _) _⟩
    · have hd' : d < 1 ∨ 4096 < d := by omega
      clear hd h
      go_enter Try.func12, Try.ntmps12
      go_wp2_with (first | (go_at_call 32; refine (in_yes _ _ _ _ (by omega) (by omega)).mono ?_; rintro e w' ⟨rfl, m, rfl⟩) | (go_at_call 32; refine (in_no _ _ _ _ (by omega)).mono ?_; rintro e w' ⟨rfl, m, rfl⟩))
      go_ret
      exact ⟨rfl, Buf.below_drewN ((Below.refl _ _).alloc (Nat.le_refl _) _) _⟩
  · have hn' : n < 1 ∨ 4096 < n := by omega
    clear hn h
    go_enter Try.func12, Try.ntmps12
    go_wp2_with (first | (go_at_call 32; refine (in_yes _ _ _ _ (by omega) (by omega)).mono ?_; rintro e w' ⟨rfl, m, rfl⟩) | (go_at_call 32; refine (in_no _ _ _ _ (by omega)).mono ?_; rintro e w' ⟨rfl, m, rfl⟩))
    go_ret
    exact ⟨rfl, Buf.below_drewN ((Below.refl _ _).alloc (Nat.le_refl _) _) _⟩
theorem time_inv (st n d k : Int) (h : ¬ RV n d) (w : World) :
    Calls Try.prog 14 #[.int .i64 st, .agg #[.int .i64 n, .int .i64 d], .int .i64 k] w fun e w' => e = .returned (.tuple #[.int .i64 0, .int .i64 1]) ∧ Below w.heap.size w w' := by
  go_enter Try.func14, Try.ntmps14
  go_wp2_with (first | (go_at_call 11; refine (valid_no n d h _).mono ?_; rintro e w1 ⟨rfl, hb⟩; obtain ⟨c0, c1⟩ := boxed (by simpa using hb)))
  go_ret2
  exact ⟨rfl, (((Below.refl _ _).alloc (Nat.le_refl _) _).trans (hb.mono (by simp)))⟩
theorem time_no (st n d k : Int) (h : RV n d) (w : World) (s : (st < 0 ∨ 9007199254740992 < st) ∨ (k < 0 ∨ 16777216 < k)) :
    Calls Try.prog 14 #[.int .i64 st, .agg #[.int .i64 n, .int .i64 d], .int .i64 k] w fun e w' => e = .returned (.tuple #[.int .i64 0, .int .i64 2]) ∧ Below w.heap.size w w' := by
  by_cases s1 : st < 0 ∨ 9007199254740992 < st
  · clear s
    go_enter Try.func14, Try.ntmps14
    go_wp2_with (first | (go_at_call 11; refine (valid_yes n d h _).mono ?_; rintro e w1 ⟨rfl, hb⟩; obtain ⟨c0, c1⟩ := boxed (by simpa using hb)) | (go_at_call 30; refine (within_yes _ _ _ _ (by omega) (by omega)).mono ?_; rintro e w' ⟨rfl, m, rfl⟩) | (go_at_call 30; refine (within_no _ _ _ _ (by omega)).mono ?_; rintro e w' ⟨rfl, m, rfl⟩))
    go_ret2
    exact ⟨rfl, Buf.below_drewN (((Below.refl _ _).alloc (Nat.le_refl _) _).trans (hb.mono (by simp))) _⟩
  · replace s : k < 0 ∨ 16777216 < k := by omega
    go_enter Try.func14, Try.ntmps14
    go_wp2_with (first | (go_at_call 11; refine (valid_yes n d h _).mono ?_; rintro e w1 ⟨rfl, hb⟩; obtain ⟨c0, c1⟩ := boxed (by simpa using hb)) | (go_at_call 30; refine (within_yes _ _ _ _ (by omega) (by omega)).mono ?_; rintro e w' ⟨rfl, m, rfl⟩) | (go_at_call 30; refine (within_no _ _ _ _ (by omega)).mono ?_; rintro e w' ⟨rfl, m, rfl⟩))
    go_ret2
    exact ⟨rfl, Buf.below_drewN (((Below.refl _ _).alloc (Nat.le_refl _) _).trans (hb.mono (by simp))) _⟩
theorem check_inv (st n d t : Int) (h : ¬ RV n d) (w : World) :
    Calls Try.prog 35 #[.int .i64 st, .agg #[.int .i64 n, .int .i64 d], .int .i64 t] w fun e w' => e = .returned (.int .i64 1) ∧ Below w.heap.size w w' := by
  go_enter Try.func35, Try.ntmps35
  go_wp2_with (first | (go_at_call 11; refine (valid_no n d h _).mono ?_; rintro e w1 ⟨rfl, hb⟩; obtain ⟨c0, c1⟩ := boxed (by simpa using hb)))
  go_ret
  exact ⟨rfl, (((Below.refl _ _).alloc (Nat.le_refl _) _).trans (hb.mono (by simp)))⟩
theorem check_no (st n d t : Int) (h : RV n d) (w : World) (s : (st < 0 ∨ 9007199254740992 < st) ∨ (t < 0 ∨ 18014398509481984 < t)) :
    Calls Try.prog 35 #[.int .i64 st, .agg #[.int .i64 n, .int .i64 d], .int .i64 t] w fun e w' => e = .returned (.int .i64 2) ∧ Below w.heap.size w w' := by
  by_cases s1 : st < 0 ∨ 9007199254740992 < st
  · clear s
    go_enter Try.func35, Try.ntmps35
    go_wp2_with (first | (go_at_call 11; refine (valid_yes n d h _).mono ?_; rintro e w1 ⟨rfl, hb⟩; obtain ⟨c0, c1⟩ := boxed (by simpa using hb)) | (go_at_call 30; refine (within_yes _ _ _ _ (by omega) (by omega)).mono ?_; rintro e w' ⟨rfl, m, rfl⟩) | (go_at_call 30; refine (within_no _ _ _ _ (by omega)).mono ?_; rintro e w' ⟨rfl, m, rfl⟩))
    go_ret
    exact ⟨rfl, Buf.below_drewN (((Below.refl _ _).alloc (Nat.le_refl _) _).trans (hb.mono (by simp))) _⟩
  · replace s : t < 0 ∨ 18014398509481984 < t := by omega
    go_enter Try.func35, Try.ntmps35
    go_wp2_with (first | (go_at_call 11; refine (valid_yes n d h _).mono ?_; rintro e w1 ⟨rfl, hb⟩; obtain ⟨c0, c1⟩ := boxed (by simpa using hb)) | (go_at_call 30; refine (within_yes _ _ _ _ (by omega) (by omega)).mono ?_; rintro e w' ⟨rfl, m, rfl⟩) | (go_at_call 30; refine (within_no _ _ _ _ (by omega)).mono ?_; rintro e w' ⟨rfl, m, rfl⟩))
    go_ret
    exact ⟨rfl, Buf.below_drewN (((Below.refl _ _).alloc (Nat.le_refl _) _).trans (hb.mono (by simp))) _⟩
theorem reftime_ok (st n d k : Int) (h : RV n d) (w : World) (s0 : 0 ≤ st) (s1 : st ≤ 9007199254740992) (k0 : 0 ≤ k) (k1 : k ≤ 16777216) :
    Calls Try.prog 15 #[.int .i64 st, .agg #[.int .i64 n, .int .i64 d], .int .i64 k] w fun e w' => e = .returned (.tuple #[.int .i64 (st + el n d k), .int .i64 0]) ∧ Below w.heap.size w w' := by
  obtain ⟨e0, e1⟩ := el_bd n d k h.n1 h.d1 h.d2 k0 (by omega)
  have hE : k * d * 1000000 / n = el n d k := by unfold el; rw [Int.mul_assoc]
  have p0 : 0 ≤ k * d := Int.mul_nonneg k0 (by have := h.d1; omega)
  have p1 : k * d ≤ 16777216 * 4096 := Int.mul_le_mul k1 h.d2 (by have := h.d1; omega) (by omega)
  have n1 := h.n1
  have n2 := h.n2
  have hq0 : 0 ≤ k * d * 1000000 / n := by rw [hE]; exact e0
  have hq1 : k * d * 1000000 / n ≤ 68719480832000000 := by rw [hE]; exact e1
  rw [← hE]
  clear hE e0 e1
  go_enter Try.func15, Try.ntmps15
  go_wp2_with (first | (go_at_call 12; refine (refvalid_yes n d h _).mono ?_; rintro e w1 ⟨rfl, hb⟩; obtain ⟨c0, c1⟩ := boxed (by simpa using hb)) | (go_at_call 32; refine (in_yes _ _ _ _ (by omega) (by omega)).mono ?_; rintro e w' ⟨rfl, m, rfl⟩) | (go_at_call 32; refine (in_no _ _ _ _ (by omega)).mono ?_; rintro e w' ⟨rfl, m, rfl⟩))
  go_ret2
  exact ⟨rfl, Buf.below_drewN (((Below.refl _ _).alloc (Nat.le_refl _) _).trans (hb.mono (by simp))) _⟩
theorem reftime_inv (st n d k : Int) (h : ¬ RV n d) (w : World) :
    Calls Try.prog 15 #[.int .i64 st, .agg #[.int .i64 n, .int .i64 d], .int .i64 k] w fun e w' => e = .returned (.tuple #[.int .i64 0, .int .i64 1]) ∧ Below w.heap.size w w' := by
  go_enter Try.func15, Try.ntmps15
  go_wp2_with (first | (go_at_call 12; refine (refvalid_no n d h _).mono ?_; rintro e w1 ⟨rfl, hb⟩; obtain ⟨c0, c1⟩ := boxed (by simpa using hb)))
  go_ret2
  exact ⟨rfl, (((Below.refl _ _).alloc (Nat.le_refl _) _).trans (hb.mono (by simp)))⟩
theorem reftime_no (st n d k : Int) (h : RV n d) (w : World) (s : (st < 0 ∨ 9007199254740992 < st) ∨ (k < 0 ∨ 16777216 < k)) :
    Calls Try.prog 15 #[.int .i64 st, .agg #[.int .i64 n, .int .i64 d], .int .i64 k] w fun e w' => e = .returned (.tuple #[.int .i64 0, .int .i64 2]) ∧ Below w.heap.size w w' := by
  by_cases s1 : st < 0 ∨ 9007199254740992 < st
  · clear s
    go_enter Try.func15, Try.ntmps15
    go_wp2_with (first | (go_at_call 12; refine (refvalid_yes n d h _).mono ?_; rintro e w1 ⟨rfl, hb⟩; obtain ⟨c0, c1⟩ := boxed (by simpa using hb)) | (go_at_call 32; refine (in_yes _ _ _ _ (by omega) (by omega)).mono ?_; rintro e w' ⟨rfl, m, rfl⟩) | (go_at_call 32; refine (in_no _ _ _ _ (by omega)).mono ?_; rintro e w' ⟨rfl, m, rfl⟩))
    go_ret2
    exact ⟨rfl, Buf.below_drewN (((Below.refl _ _).alloc (Nat.le_refl _) _).trans (hb.mono (by simp))) _⟩
  · replace s : k < 0 ∨ 16777216 < k := by omega
    go_enter Try.func15, Try.ntmps15
    go_wp2_with (first | (go_at_call 12; refine (refvalid_yes n d h _).mono ?_; rintro e w1 ⟨rfl, hb⟩; obtain ⟨c0, c1⟩ := boxed (by simpa using hb)) | (go_at_call 32; refine (in_yes _ _ _ _ (by omega) (by omega)).mono ?_; rintro e w' ⟨rfl, m, rfl⟩) | (go_at_call 32; refine (in_no _ _ _ _ (by omega)).mono ?_; rintro e w' ⟨rfl, m, rfl⟩))
    go_ret2
    exact ⟨rfl, Buf.below_drewN (((Below.refl _ _).alloc (Nat.le_refl _) _).trans (hb.mono (by simp))) _⟩
theorem refcheck_ok (st n d t : Int) (h : RV n d) (w : World) (s0 : 0 ≤ st) (s1 : st ≤ 9007199254740992) (t0 : 0 ≤ t) (t1 : t ≤ 18014398509481984) :
    Calls Try.prog 37 #[.int .i64 st, .agg #[.int .i64 n, .int .i64 d], .int .i64 t] w fun e w' => e = .returned (.int .i64 0) ∧ Below w.heap.size w w' := by
  go_enter Try.func37, Try.ntmps37
  go_wp2_with (first | (go_at_call 12; refine (refvalid_yes n d h _).mono ?_; rintro e w1 ⟨rfl, hb⟩; obtain ⟨c0, c1⟩ := boxed (by simpa using hb)) | (go_at_call 32; refine (in_yes _ _ _ _ (by omega) (by omega)).mono ?_; rintro e w' ⟨rfl, m, rfl⟩))
  go_ret
  exact ⟨rfl, Buf.below_drewN (((Below.refl _ _).alloc (Nat.le_refl _) _).trans (hb.mono (by simp))) _⟩
theorem refcheck_inv (st n d t : Int) (h : ¬ RV n d) (w : World) :
    Calls Try.prog 37 #[.int .i64 st, .agg #[.int .i64 n, .int .i64 d], .int .i64 t] w fun e w' => e = .returned (.int .i64 1) ∧ Below w.heap.size w w' := by
  go_enter Try.func37, Try.ntmps37
  go_wp2_with (first | (go_at_call 12; refine (refvalid_no n d h _).mono ?_; rintro e w1 ⟨rfl, hb⟩; obtain ⟨c0, c1⟩ := boxed (by simpa using hb)))
  go_ret
  exact ⟨rfl, (((Below.refl _ _).alloc (Nat.le_refl _) _).trans (hb.mono (by simp)))⟩
theorem refcheck_no (st n d t : Int) (h : RV n d) (w : World) (s : (st < 0 ∨ 9007199254740992 < st) ∨ (t < 0 ∨ 18014398509481984 < t)) :
    Calls Try.prog 37 #[.int .i64 st, .agg #[.int .i64 n, .int .i64 d], .int .i64 t] w fun e w' => e = .returned (.int .i64 2) ∧ Below w.heap.size w w' := by
  by_cases s1 : st < 0 ∨ 9007199254740992 < st
  · clear s
    go_enter Try.func37, Try.ntmps37
    go_wp2_with (first | (go_at_call 12; refine (refvalid_yes n d h _).mono ?_; rintro e w1 ⟨rfl, hb⟩; obtain ⟨c0, c1⟩ := boxed (by simpa using hb)) | (go_at_call 32; refine (in_yes _ _ _ _ (by omega) (by omega)).mono ?_; rintro e w' ⟨rfl, m, rfl⟩) | (go_at_call 32; refine (in_no _ _ _ _ (by omega)).mono ?_; rintro e w' ⟨rfl, m, rfl⟩))
    go_ret
    exact ⟨rfl, Buf.below_drewN (((Below.refl _ _).alloc (Nat.le_refl _) _).trans (hb.mono (by simp))) _⟩
  · replace s : t < 0 ∨ 18014398509481984 < t := by omega
    go_enter Try.func37, Try.ntmps37
    go_wp2_with (first | (go_at_call 12; refine (refvalid_yes n d h _).mono ?_; rintro e w1 ⟨rfl, hb⟩; obtain ⟨c0, c1⟩ := boxed (by simpa using hb)) | (go_at_call 32; refine (in_yes _ _ _ _ (by omega) (by omega)).mono ?_; rintro e w' ⟨rfl, m, rfl⟩) | (go_at_call 32; refine (in_no _ _ _ _ (by omega)).mono ?_; rintro e w' ⟨rfl, m, rfl⟩))
    go_ret
    exact ⟨rfl, Buf.below_drewN (((Below.refl _ _).alloc (Nat.le_refl _) _).trans (hb.mono (by simp))) _⟩
end Rate
end Go.Proofs.Ytgckppkfpccanaa
