/- The first sample at or behind a time: the mathematics of Cut and Inside. -/
import Derived.Test.YticdjlpabknaiaaRecG
set_option linter.unusedVariables false
namespace Go.Proofs.Yticdjlpabknaiaa
open Go.RowKit Dice
namespace Rec
/-- The first of m times that is at least t, or m. -/
def ffd (T : Nat → Int) (t : Int) : Nat → Nat
  | 0 => 0
  | m + 1 => if T m < t then m + 1 else ffd T t m
theorem ffd_le (T : Nat → Int) (t : Int) : ∀ m, ffd T t m ≤ m := by
  intro m
  induction m with
  | zero => exact Nat.le_refl _
  | succ m ih => unfold ffd; split <;> omega
theorem ffd_spec {T : Nat → Int} (asc : ∀ i j, i ≤ j → T i ≤ T j) (t : Int) : ∀ m j, j < m → (ffd T t m ≤ j ↔ t ≤ T j) := by
  intro m
  induction m with
  | zero => intro j hj; omega
  | succ m ih =>
    intro j hj
    unfold ffd
    split
    · rename_i h
      have := asc j m (by omega)
      omega
    · rename_i h
      by_cases e : j = m
      · subst e
        have := ffd_le T t j
        omega
      · exact ih j (by omega)
theorem ffd_mono {T : Nat → Int} {t u : Int} (h : t ≤ u) : ∀ m, ffd T t m ≤ ffd T u m := by
  intro m
  induction m with
  | zero => exact Nat.le_refl _
  | succ m ih =>
    unfold ffd
    have := ffd_le T t m
    split <;> split <;> omega
theorem ffd_all {T : Nat → Int} {t : Int} (m : Nat) (h : ∀ j, j < m → T j < t) : ffd T t m = m := by
  cases m with
  | zero => rfl
  | succ m => unfold ffd; rw [if_pos (h m (by omega))]
theorem ffd_zero {T : Nat → Int} {t : Int} : ∀ m, (∀ j, j < m → t ≤ T j) → ffd T t m = 0 := by
  intro m
  induction m with
  | zero => intro _; rfl
  | succ m ih =>
    intro h
    unfold ffd
    rw [if_neg (by have := h m (by omega); omega)]
    exact ih fun j hj => h j (by omega)
theorem tm_mono {num den : Int} (R : Rate.RV num den) (st fi : Int) {i j : Int} (h : i ≤ j) : tm st fi num den i ≤ tm st fi num den j := by
  unfold tm Rate.el
  have := Int.ediv_le_ediv (a := (fi + i) * (den * 1000000)) (b := (fi + j) * (den * 1000000)) (c := num) (by have := R.n1; omega) (Int.mul_le_mul_of_nonneg_right (by omega) (by have := R.d1; omega))
  omega
theorem tm_step {num den : Int} (R : Rate.RV num den) (st fi i : Int) : tm st fi num den i < tm st fi num den (i + 1) := by
  unfold tm
  obtain ⟨h1, h2⟩ := Laws.el_step num den (fi + i) R
  rw [← Int.add_assoc]
  omega
end Rec
end Go.Proofs.Yticdjlpabknaiaa
