/- The watch behind n samples is valid. -/
import Derived.Test.YtbmcmiggifknfaaDoorDetY
set_option linter.unusedVariables false
set_option linter.unusedSimpArgs false
namespace Go.Proofs.YtbmcmiggifknfaaDoor
namespace Det
/-- The open trigger behind k samples: none, or one that began at or behind sample L - 1. -/
theorem scn_open (d : Dt) (V : Nat → Int) (N : Nat) (hV : ∀ j, j < N → 0 ≤ V j ∧ V j ≤ 1073741823) : ∀ k, k ≤ N →
    ((scn d V k).2.on = -1 ∧ (scn d V k).2.off = 0 ∧ (scn d V k).2.pk = 0) ∨ (0 ≤ (scn d V k).2.on ∧ (scn d V k).2.on < k ∧ d.L ≤ k ∧ (scn d V k).2.off = -1 ∧ 0 ≤ (scn d V k).2.pk ∧ (scn d V k).2.pk ≤ 1073741823) := by
  intro k
  induction k with
  | zero => intro _; exact .inl ⟨rfl, rfl, rfl⟩
  | succ k ih =>
    intro hk
    have h := ih (by omega)
    have hv := hV k (by omega)
    rw [show scn d V (k + 1) = step d V k (scn d V k).1 (scn d V k).2 from rfl]
    generalize (scn d V k).2 = o at h
    unfold step
    split
    · rcases h with h | h
      · exact .inl h
      · exact .inr ⟨h.1, by have := h.2.1; omega, by omega, h.2.2.2⟩
    split
    · rcases h with h | h
      · split
        · exact .inr ⟨by simp only; omega, by simp only; omega, by omega, rfl, hv⟩
        · exact .inl h
      · omega
    split
    · rcases h with h | h
      · omega
      · refine .inr ⟨h.1, ?_, by omega, h.2.2.2.1, ?_, ?_⟩
        · have := h.2.1; simp only; omega
        · have := h.2.2.2.2; simp only; omega
        · have := h.2.2.2.2; simp only; omega
    · exact .inl ⟨rfl, rfl, rfl⟩
theorem wg_at (d : Dt) (V : Nat → Int) (N n : Nat) (hV : ∀ j, j < N → 0 ≤ V j ∧ V j ≤ 1073741823) (hn : n ≤ N) (hN : N ≤ 1000) (hL : 1 ≤ d.L) :
    WG d.L (kept d n) n (scn d V n).2.on (scn d V n).2.off (scn d V n).2.pk (fun j => V (n - kept d n + j)) := by
  have hk : kept d n = min n (d.L - 1) := rfl
  refine ⟨by omega, by omega, by omega, fun h => by omega, fun j hj => hV _ (by omega), scn_open d V N hV n hn⟩
end Det
end Go.Proofs.YtbmcmiggifknfaaDoor
