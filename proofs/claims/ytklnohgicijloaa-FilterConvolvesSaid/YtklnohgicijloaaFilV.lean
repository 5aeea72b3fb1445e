/- The mathematics of convolutions. -/
import Derived.Test.YtklnohgicijloaaFilM
set_option linter.unusedVariables false
namespace Go.Proofs.Ytklnohgicijloaa
namespace Fil
/-- The taps of a convolution after i taps of the first filter. -/
def row (A B : Nat → Int) (nb : Nat) : Nat → Nat → Int
  | 0, _ => 0
  | i + 1, j => row A B nb i j + (if i ≤ j ∧ j - i < nb then A i * B (j - i) else 0)
theorem row_none (A B : Nat → Int) (j : Nat) : ∀ i, row A B 0 i j = 0 := by
  intro i
  induction i with
  | zero => rfl
  | succ i ih => unfold row; rw [ih, if_neg (by omega)]; rfl
theorem row_col (A B : Nat → Int) (i j : Nat) : ∀ k, row B A (i + 1) k j = row B A i k j + (if i ≤ j ∧ j - i < k then A i * B (j - i) else 0) := by
  intro k
  induction k with
  | zero => rw [if_neg (by omega)]; rfl
  | succ k ih =>
    have e1 : row B A (i + 1) (k + 1) j = row B A (i + 1) k j + (if k ≤ j ∧ j - k < i + 1 then B k * A (j - k) else 0) := rfl
    have e2 : row B A i (k + 1) j = row B A i k j + (if k ≤ j ∧ j - k < i then B k * A (j - k) else 0) := rfl
    rw [e1, e2, ih]
    by_cases hj : j = i + k
    · subst hj
      rw [if_neg (by omega), if_pos (by omega), if_neg (by omega), if_pos (by omega), show i + k - k = i by omega, show i + k - i = k by omega, Int.mul_comm (B k)]
    · have c1 : (k ≤ j ∧ j - k < i + 1) = (k ≤ j ∧ j - k < i) := by apply propext; constructor <;> intro h <;> omega
      have c2 : (i ≤ j ∧ j - i < k + 1) = (i ≤ j ∧ j - i < k) := by apply propext; constructor <;> intro h <;> omega
      simp only [c1, c2]
      omega
theorem row_swap (A B : Nat → Int) (k j : Nat) : ∀ i, row A B k i j = row B A i k j := by
  intro i
  induction i with
  | zero => rw [row_none]; rfl
  | succ i ih => rw [row_col, ← ih]; rfl
theorem dot_add (U V X : Nat → Int) (t : Nat) : ∀ n, dot (fun j => U j + V j) X t n = dot U X t n + dot V X t n := by
  intro n
  induction n with
  | zero => rfl
  | succ n ih => unfold dot; rw [ih, Int.add_mul]; omega
theorem dot_shift (B X : Nat → Int) (c : Int) (i nb t : Nat) : ∀ n, n ≤ t + 1 → dot (fun j => if i ≤ j ∧ j - i < nb then c * B (j - i) else 0) X t n = c * dot B X (t - i) (min (n - i) nb) := by
  intro n
  induction n with
  | zero => intro _; rw [show min (0 - i) nb = 0 by omega]; simp [dot]
  | succ n ih =>
    intro hn
    have e : dot (fun j => if i ≤ j ∧ j - i < nb then c * B (j - i) else 0) X t (n + 1) = dot (fun j => if i ≤ j ∧ j - i < nb then c * B (j - i) else 0) X t n + (if i ≤ n ∧ n - i < nb then c * B (n - i) else 0) * X (t - n) := rfl
    rw [e, ih (by omega)]
    by_cases h : i ≤ n ∧ n - i < nb
    · rw [if_pos h, show min (n + 1 - i) nb = (n - i) + 1 by omega, show min (n - i) nb = n - i by omega]
      have e2 : dot B X (t - i) (n - i + 1) = dot B X (t - i) (n - i) + B (n - i) * X (t - i - (n - i)) := rfl
      rw [e2, show t - i - (n - i) = t - n by omega, Int.mul_add, Int.mul_assoc]
    · rw [if_neg h, show min (n + 1 - i) nb = min (n - i) nb by omega]; omega
/-- A sum of sums of products. -/
def conv (A B X : Nat → Int) (nb t : Nat) : Nat → Int
  | 0 => 0
  | i + 1 => conv A B X nb t i + A i * dot B X (t - i) nb
theorem dot_row (A B X : Nat → Int) (nb t n : Nat) (ht : n ≤ t + 1) : ∀ i, (i = 0 ∨ i - 1 + nb ≤ n) → dot (row A B nb i) X t n = conv A B X nb t i := by
  intro i
  induction i with
  | zero =>
    intro _
    have : ∀ n, dot (row A B nb 0) X t n = 0 := by
      intro n
      induction n with
      | zero => rfl
      | succ n ih => unfold dot; rw [ih]; simp [row]
    exact this n
  | succ i ih =>
    intro h
    have e : row A B nb (i + 1) = fun j => row A B nb i j + (if i ≤ j ∧ j - i < nb then A i * B (j - i) else 0) := rfl
    rw [e, dot_add, dot_shift B X (A i) i nb t n ht, ih (by omega), show min (n - i) nb = nb by omega]
    rfl
theorem absum_add (U V : Nat → Int) : ∀ n, absum (fun j => U j + V j) n ≤ absum U n + absum V n := by
  intro n
  induction n with
  | zero => exact Int.le_refl _
  | succ n ih => unfold absum; omega
theorem abs_mul (a b : Int) : max (a * b) (-(a * b)) = max a (-a) * max b (-b) := by
  rcases Int.le_total 0 a with ha | ha <;> rcases Int.le_total 0 b with hb | hb
  · have := Int.mul_nonneg ha hb
    rw [show max a (-a) = a by omega, show max b (-b) = b by omega]; omega
  · have := Int.mul_nonneg ha (show 0 ≤ -b by omega)
    rw [show max a (-a) = a by omega, show max b (-b) = -b by omega]
    rw [Int.mul_neg] at *
    omega
  · have := Int.mul_nonneg (show 0 ≤ -a by omega) hb
    rw [show max a (-a) = -a by omega, show max b (-b) = b by omega]
    rw [Int.neg_mul] at *
    omega
  · have := Int.mul_nonneg (show 0 ≤ -a by omega) (show 0 ≤ -b by omega)
    rw [show max a (-a) = -a by omega, show max b (-b) = -b by omega]
    rw [Int.neg_mul_neg] at *
    omega
theorem absum_shift (B : Nat → Int) (c : Int) (i nb : Nat) : ∀ n, absum (fun j => if i ≤ j ∧ j - i < nb then c * B (j - i) else 0) n = max c (-c) * absum B (min (n - i) nb) := by
  intro n
  induction n with
  | zero => rw [show min (0 - i) nb = 0 by omega]; simp [absum]
  | succ n ih =>
    have e : absum (fun j => if i ≤ j ∧ j - i < nb then c * B (j - i) else 0) (n + 1) = absum (fun j => if i ≤ j ∧ j - i < nb then c * B (j - i) else 0) n + max (if i ≤ n ∧ n - i < nb then c * B (n - i) else 0) (-(if i ≤ n ∧ n - i < nb then c * B (n - i) else 0)) := rfl
    rw [e, ih]
    by_cases h : i ≤ n ∧ n - i < nb
    · rw [if_pos h, show min (n + 1 - i) nb = (n - i) + 1 by omega, show min (n - i) nb = n - i by omega, abs_mul]
      have e2 : absum B (n - i + 1) = absum B (n - i) + max (B (n - i)) (-B (n - i)) := rfl
      rw [e2, Int.mul_add]
    · rw [if_neg h, show min (n + 1 - i) nb = min (n - i) nb by omega]; omega
theorem absum_row (A B : Nat → Int) (nb n : Nat) : ∀ i, absum (row A B nb i) n ≤ absum A i * absum B nb := by
  intro i
  induction i with
  | zero =>
    have : ∀ n, absum (row A B nb 0) n = 0 := by
      intro n
      induction n with
      | zero => rfl
      | succ n ih => unfold absum; rw [ih]; simp [row]
    rw [this]; simp [absum]
  | succ i ih =>
    have e : row A B nb (i + 1) = fun j => row A B nb i j + (if i ≤ j ∧ j - i < nb then A i * B (j - i) else 0) := rfl
    have h1 := absum_add (row A B nb i) (fun j => if i ≤ j ∧ j - i < nb then A i * B (j - i) else 0) n
    rw [absum_shift] at h1
    have h2 := Int.mul_le_mul_of_nonneg_left (absum_le B (min (n - i) nb) nb (by omega)) (show 0 ≤ max (A i) (-A i) by omega)
    have e3 : absum A (i + 1) = absum A i + max (A i) (-A i) := rfl
    rw [e, e3, Int.add_mul]
    omega
/-- One rounding inside of the sum. -/
theorem conv_round (A B X P : Nat → Int) (na nb u : Nat) (Q : Int) (hQ : 1 ≤ Q) (hu : nb ≤ u + 1) (hP : ∀ m, P m = dot A X (na - 1 + m) na / Q) : ∀ i, i ≤ nb → ∃ E : Int, conv B A X na (na - 1 + u) i = Q * dot B P u i + E ∧ -(absum B i * (Q - 1)) ≤ E ∧ E ≤ absum B i * (Q - 1) := by
  intro i
  induction i with
  | zero => intro _; exact ⟨0, by simp [conv, dot], by simp [absum], by simp [absum]⟩
  | succ i ih =>
    intro hi
    obtain ⟨E, e1, e2, e3⟩ := ih (by omega)
    have hd := Int.mul_ediv_add_emod (dot A X (na - 1 + (u - i)) na) Q
    have h0 := Int.emod_nonneg (dot A X (na - 1 + (u - i)) na) (show Q ≠ 0 by omega)
    have h1 := Int.emod_lt_of_pos (dot A X (na - 1 + (u - i)) na) (show 0 < Q by omega)
    rw [← hP (u - i)] at hd
    generalize hr : dot A X (na - 1 + (u - i)) na % Q = r at *
    have hb := prod_bd (B i) r (Q - 1) (by omega) (by omega)
    refine ⟨E + B i * r, ?_, ?_, ?_⟩
    · have c1 : conv B A X na (na - 1 + u) (i + 1) = conv B A X na (na - 1 + u) i + B i * dot A X (na - 1 + u - i) na := rfl
      have c2 : dot B P u (i + 1) = dot B P u i + B i * P (u - i) := rfl
      rw [c1, c2, e1, show na - 1 + u - i = na - 1 + (u - i) by omega, ← hd, Int.mul_add, Int.mul_add, ← Int.mul_assoc (B i), Int.mul_comm (B i) Q, Int.mul_assoc]
      omega
    · have c3 : absum B (i + 1) = absum B i + max (B i) (-B i) := rfl
      rw [c3, Int.add_mul]; omega
    · have c3 : absum B (i + 1) = absum B i + max (B i) (-B i) := rfl
      rw [c3, Int.add_mul]; omega
theorem round_two (D E Q S : Int) (hQ : 1 ≤ Q) (hS : 1 ≤ S) (h1 : -(S * (Q - 1)) ≤ E) (h2 : E ≤ S * (Q - 1)) : -1 ≤ (Q * D + E) / (Q * S) - D / S ∧ (Q * D + E) / (Q * S) - D / S ≤ 1 ∧ (Q = 1 → (Q * D + E) / (Q * S) - D / S = 0) := by
  have hd := Int.mul_ediv_add_emod D S
  have r0 := Int.emod_nonneg D (show S ≠ 0 by omega)
  have r1 := Int.emod_lt_of_pos D (show 0 < S by omega)
  generalize D / S = d at *
  generalize D % S = r at *
  have hQS : 0 < Q * S := Int.mul_pos (by omega) (by omega)
  have q0 : 0 ≤ Q * r := Int.mul_nonneg (by omega) r0
  have q1 : Q * r ≤ Q * S - Q := by
    have := Int.mul_le_mul_of_nonneg_left (show r ≤ S - 1 by omega) (show 0 ≤ Q by omega)
    rw [Int.mul_sub, Int.mul_one] at this; exact this
  have s1 : S * (Q - 1) = Q * S - S := by rw [Int.mul_sub, Int.mul_one, Int.mul_comm]
  have e : Q * D + E = (Q * r + E) + Q * S * d := by rw [← hd, Int.mul_add, ← Int.mul_assoc]; omega
  rw [e, Int.add_mul_ediv_left _ _ (by omega)]
  have lo : -1 ≤ (Q * r + E) / (Q * S) := (Int.le_ediv_iff_mul_le hQS).2 (by omega)
  have hi : (Q * r + E) / (Q * S) < 2 := (Int.ediv_lt_iff_lt_mul hQS).2 (by omega)
  refine ⟨by omega, by omega, fun h => ?_⟩
  subst h
  have : E = 0 := by omega
  subst this
  have : (1 * r + 0) / (1 * S) = 0 := Int.ediv_eq_zero_of_lt (by omega) (by omega)
  omega
end Fil
end Go.Proofs.Ytklnohgicijloaa
