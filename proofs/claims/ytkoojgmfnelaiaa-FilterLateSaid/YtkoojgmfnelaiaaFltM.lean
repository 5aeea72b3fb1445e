/- Where the outputs of a filter lie: the next output at or behind a sample. -/
import Derived.Test.YtkoojgmfnelaiaaFilM
set_option linter.unusedVariables false
namespace Go.Proofs.Ytkoojgmfnelaiaa
namespace Fil
/-- The first sample at or behind K that gives an output. -/
def nx (fac num : Int) (K : Nat) : Int := K + (-(num + K)) % fac
theorem nx_bd (fac num : Int) (K : Nat) (f1 : 1 ≤ fac) : (K : Int) ≤ nx fac num K ∧ nx fac num K ≤ K + fac - 1 := by
  have h0 := Int.emod_nonneg (-(num + K)) (show fac ≠ 0 by omega)
  have h1 := Int.emod_lt_of_pos (-(num + K)) (show 0 < fac by omega)
  unfold nx
  omega
theorem nx_here (fac num : Int) (K : Nat) (h : (num + K) % fac = 0) : nx fac num K = K := by
  have : (-(num + K)) % fac = 0 := Int.emod_eq_zero_of_dvd ((Int.dvd_neg).2 (Int.dvd_of_emod_eq_zero h))
  unfold nx
  omega
theorem nx_dvd (fac num : Int) (K : Nat) (f1 : 1 ≤ fac) : fac ∣ num + nx fac num K := by
  unfold nx
  have h := Int.emod_add_mul_ediv (-(num + K)) fac
  refine ⟨-((-(num + K)) / fac), ?_⟩
  rw [Int.mul_neg]
  omega
theorem nx_uniq (fac a b : Int) (f1 : 1 ≤ fac) (h1 : fac ∣ a - b) (h2 : -fac < a - b) (h3 : a - b < fac) : a = b := by
  obtain ⟨q, hq⟩ := h1
  have h4 : q < 1 := Int.lt_of_mul_lt_mul_left (a := fac) (by omega) (by omega)
  have h5 : -1 < q := Int.lt_of_mul_lt_mul_left (a := fac) (by omega) (by omega)
  obtain rfl : q = 0 := by omega
  omega
theorem nx_step (fac num : Int) (K : Nat) (f1 : 1 ≤ fac) (h : ¬ (num + K) % fac = 0) : nx fac num (K + 1) = nx fac num K := by
  obtain ⟨a0, a1⟩ := nx_bd fac num K f1
  obtain ⟨b0, b1⟩ := nx_bd fac num (K + 1) f1
  have d1 := nx_dvd fac num K f1
  have d2 := nx_dvd fac num (K + 1) f1
  have hne : nx fac num K ≠ K := fun e => h (Int.emod_eq_zero_of_dvd (by rw [e] at d1; exact d1))
  refine nx_uniq fac _ _ f1 ?_ (by push_cast at *; omega) (by push_cast at *; omega)
  have := Int.dvd_sub d2 d1
  rwa [show num + nx fac num (K + 1) - (num + nx fac num K) = nx fac num (K + 1) - nx fac num K by omega] at this
theorem nx_jump (fac num : Int) (K : Nat) (f1 : 1 ≤ fac) (h : (num + K) % fac = 0) : nx fac num (K + 1) = nx fac num K + fac := by
  obtain ⟨b0, b1⟩ := nx_bd fac num (K + 1) f1
  have d1 := nx_dvd fac num K f1
  have d2 := nx_dvd fac num (K + 1) f1
  have e := nx_here fac num K h
  refine nx_uniq fac _ _ f1 ?_ (by push_cast at *; omega) (by push_cast at *; omega)
  have h3 := Int.dvd_sub (Int.dvd_sub d2 d1) (Int.dvd_refl fac)
  rwa [show num + nx fac num (K + 1) - (num + nx fac num K) - fac = nx fac num (K + 1) - (nx fac num K + fac) by omega] at h3
/-- The outputs count the places. -/
theorem nx_len (T X : Nat → Int) (n s : Nat) (fac num : Int) (f1 : 1 ≤ fac) : ∀ K, n - 1 ≤ K → nx fac num K = nx fac num (n - 1) + fac * ((outs T X n s fac num K).length : Int) := by
  intro K hK
  obtain ⟨d, rfl⟩ := Nat.exists_eq_add_of_le hK
  clear hK
  induction d with
  | zero => rw [outs_zero T X n s fac num (n - 1 + 0) (by omega)]; simp
  | succ d ih =>
    rw [show n - 1 + (d + 1) = n - 1 + d + 1 by omega]
    by_cases h : (num + ((n - 1 + d : Nat) : Int)) % fac = 0
    · rw [outs_yes T X n s fac num _ (by omega) h, nx_jump fac num _ f1 h, ih, List.length_append]
      simp only [List.length_cons, List.length_nil]
      push_cast
      rw [Int.mul_add]
      omega
    · rw [outs_no T X n s fac num _ h, nx_step fac num _ f1 h, ih]
theorem nx_first (T X : Nat → Int) (n s : Nat) (fac num : Int) (f1 : 1 ≤ fac) (k : Nat) (hk : n - 1 ≤ k) (h0 : outs T X n s fac num k = []) (h : (num + k) % fac = 0) : (k : Int) = nx fac num (n - 1) := by
  have e := nx_len T X n s fac num f1 k hk
  rw [h0, nx_here fac num k h] at e
  simpa using e
/-- No output: the samples end before one is due. -/
theorem outs_none (T X : Nat → Int) (n s : Nat) (fac num : Int) (f1 : 1 ≤ fac) (n1 : 1 ≤ n) (k : Nat) (h0 : outs T X n s fac num k = []) : (k : Int) < n + fac := by
  by_cases hk : n - 1 ≤ k
  · have e := nx_len T X n s fac num f1 k hk
    have a := nx_bd fac num k f1
    have b := nx_bd fac num (n - 1) f1
    rw [h0] at e
    simp at e
    omega
  · omega
end Fil
end Go.Proofs.Ytkoojgmfnelaiaa
