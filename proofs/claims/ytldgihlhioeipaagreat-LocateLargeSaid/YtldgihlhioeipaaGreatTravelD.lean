/- Contracts of package travel, whatever the valid table: Distances. -/
import Derived.Test.YtldgihlhioeipaaGreatTravAC
namespace Go.Proofs.YtldgihlhioeipaaGreat
open Go.RowKit
namespace Trav
/-- Where a property that holds up to somewhere ends. -/
theorem thr (P : Nat → Prop) (n : Nat) (hm : ∀ i j, i ≤ j → j < n → P j → P i) : ∃ f, f ≤ n ∧ ∀ j, j < n → (P j ↔ j < f) := by
  induction n with
  | zero => exact ⟨0, Nat.le_refl _, fun j hj => absurd hj (by omega)⟩
  | succ n ih =>
    obtain ⟨f, hf, h⟩ := ih fun i j h1 h2 => hm i j h1 (by omega)
    by_cases hp : P n
    · refine ⟨n + 1, Nat.le_refl _, fun j hj => ⟨fun _ => hj, fun _ => hm j n (by omega) (by omega) hp⟩⟩
    · refine ⟨f, by omega, fun j hj => ?_⟩
      by_cases hj2 : j < n
      · exact h j hj2
      · obtain rfl : j = n := by omega
        exact ⟨fun hh => absurd hh hp, fun hh => absurd hh (by omega)⟩
theorem bs_bd {k s : Int} (k0 : -1 ≤ k) (k1 : k ≤ 256) (s1 : 1 ≤ s) (s9 : s ≤ 1048576) : -1048576 ≤ k * s ∧ k * s ≤ 268435456 := by
  have h1 : -s ≤ k * s := by
    have : 0 ≤ (k + 1) * s := Int.mul_nonneg (by omega) (by omega)
    rw [Int.add_mul, Int.one_mul] at this
    omega
  have h2 : k * s ≤ 256 * s := Int.mul_le_mul_of_nonneg_right k1 (by omega)
  omega
def DistSaid (s : Int) (n f g : Nat) (r : Ending) : Prop :=
  (f < n ∧ 0 < g ∧ max (((f : Int) - 1) * s + 1) 0 ≤ min ((g : Int) * s - 1) (s * ((n : Int) - 1)) ∧ r = .returned (.tuple #[.int .i64 (max (((f : Int) - 1) * s + 1) 0), .int .i64 (min ((g : Int) * s - 1) (s * ((n : Int) - 1))), .int .i64 0])) ∨
  ((n ≤ f ∨ g = 0 ∨ min ((g : Int) * s - 1) (s * ((n : Int) - 1)) < max (((f : Int) - 1) * s + 1) 0) ∧ r = .returned (.tuple #[.int .i64 0, .int .i64 0, .int .i64 24]))
end Trav
end Go.Proofs.YtldgihlhioeipaaGreat
