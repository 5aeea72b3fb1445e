/- Facts of boxes and their hulls. -/
import Derived.Test.YtldgihlhioeipaaGreatGeoL
namespace Go.Proofs.YtldgihlhioeipaaGreat
open Go.RowKit
namespace Geo
theorem min_abs (a b : Int) : min (min a b) a = min a b := by omega
theorem max_abs (a b : Int) : max (max a b) a = max a b := by omega
theorem hull_facts {a b c d e f a' b' c' d' e' f' : Int} (h1 : BV a b c d e f) (h2 : BV a' b' c' d' e' f') :
    BV (min a a') (min b b') (min c c') (max d d') (max e e') (max f f') ∧ (min a a' ≤ a ∧ d ≤ max d d' ∧ min b b' ≤ b ∧ e ≤ max e e' ∧ min c c' ≤ c ∧ f ≤ max f f') ∧ (min a a' ≤ a' ∧ d' ≤ max d d' ∧ min b b' ≤ b' ∧ e' ≤ max e e' ∧ min c c' ≤ c' ∧ f' ≤ max f f') ∧
    ((min a a' = a ∨ min a a' = a') ∧ (min b b' = b ∨ min b b' = b') ∧ (min c c' = c ∨ min c c' = c') ∧ (max d d' = d ∨ max d d' = d') ∧ (max e e' = e ∨ max e e' = e') ∧ (max f f' = f ∨ max f f' = f')) := by
  obtain ⟨⟨ax0, ax1, ay0, ay1, az0, az1⟩, ⟨dx0, dx1, dy0, dy1, dz0, dz1⟩, hx, hy, hz⟩ := h1
  obtain ⟨⟨ax0', ax1', ay0', ay1', az0', az1'⟩, ⟨dx0', dx1', dy0', dy1', dz0', dz1'⟩, hx', hy', hz'⟩ := h2
  refine ⟨⟨⟨?_, ?_, ?_, ?_, ?_, ?_⟩, ⟨?_, ?_, ?_, ?_, ?_, ?_⟩, ?_, ?_, ?_⟩, ⟨?_, ?_, ?_, ?_, ?_, ?_⟩, ⟨?_, ?_, ?_, ?_, ?_, ?_⟩, ⟨?_, ?_, ?_, ?_, ?_, ?_⟩⟩
  all_goals omega
theorem wi_hull {a b c d e f a' b' c' d' e' f' p q r s t u h1 h2 h3 h4 h5 h6 : Int} (_v1 : BV a b c d e f) (_v2 : BV a' b' c' d' e' f') (_v3 : BV p q r s t u)
    (hw : (h1 = a ∨ h1 = a') ∧ (h2 = b ∨ h2 = b') ∧ (h3 = c ∨ h3 = c') ∧ (h4 = d ∨ h4 = d') ∧ (h5 = e ∨ h5 = e') ∧ (h6 = f ∨ h6 = f'))
    (k1 : wiB a b c d e f p q r s t u = true) (k2 : wiB a' b' c' d' e' f' p q r s t u = true) : wiB h1 h2 h3 h4 h5 h6 p q r s t u = true := by
  simp only [wiB, decide_eq_true_eq] at *
  omega
theorem sqm {u v : Int} (h0 : 0 ≤ u) (h1 : u ≤ v) : u * u ≤ v * v := Int.mul_le_mul h1 h1 h0 (by omega)
theorem near_mono {a b c d e f a' b' c' d' e' f' x y z : Int} (_h : BV a b c d e f) (hw : a' ≤ a ∧ d ≤ d' ∧ b' ≤ b ∧ e ≤ e' ∧ c' ≤ c ∧ f ≤ f') : near3 a' b' c' d' e' f' x y z ≤ near3 a b c d e f x y z := by
  unfold near3
  have k1 := sqm (u := max (a' - x) (max (x - d') 0)) (v := max (a - x) (max (x - d) 0)) (by omega) (by omega)
  have k2 := sqm (u := max (b' - y) (max (y - e') 0)) (v := max (b - y) (max (y - e) 0)) (by omega) (by omega)
  have k3 := sqm (u := max (c' - z) (max (z - f') 0)) (v := max (c - z) (max (z - f) 0)) (by omega) (by omega)
  omega
theorem far_mono {a b c d e f a' b' c' d' e' f' x y z : Int} (h : BV a b c d e f) (hw : a' ≤ a ∧ d ≤ d' ∧ b' ≤ b ∧ e ≤ e' ∧ c' ≤ c ∧ f ≤ f') : far3 a b c d e f x y z ≤ far3 a' b' c' d' e' f' x y z := by
  have hx := h.x
  have hy := h.y
  have hz := h.z
  unfold far3
  have k1 := sqm (u := max (d - x) (x - a)) (v := max (d' - x) (x - a')) (by omega) (by omega)
  have k2 := sqm (u := max (e - y) (y - b)) (v := max (e' - y) (y - b')) (by omega) (by omega)
  have k3 := sqm (u := max (f - z) (z - c)) (v := max (f' - z) (z - c')) (by omega) (by omega)
  omega
theorem bcells {W w : World} {k : Nat} {a b c d e f : Value} {t : TypeId} (h : Hid (W.heap[k]? = some (.cells #[a, b, c, d, e, f] t (0, 0)))) (hC : Below W.heap.size W w) : w.cell? ⟨k, 0, none⟩ = some a ∧ w.cell? ⟨k, 1, none⟩ = some b ∧ w.cell? ⟨k, 2, none⟩ = some c ∧ w.cell? ⟨k, 3, none⟩ = some d ∧ w.cell? ⟨k, 4, none⟩ = some e ∧ w.cell? ⟨k, 5, none⟩ = some f :=
  cells6 (blk_b hC h.out)
/-- A block of a position holds its cells in later worlds. -/
theorem pcells {W w : World} {k : Nat} {x y z : Value} {t : TypeId} (h : Hid (W.heap[k]? = some (.cells #[x, y, z] t (0, 0)))) (hC : Below W.heap.size W w) : w.cell? ⟨k, 0, none⟩ = some x ∧ w.cell? ⟨k, 1, none⟩ = some y ∧ w.cell? ⟨k, 2, none⟩ = some z := by
  obtain ⟨a, b, c, _, _, _⟩ := cells3 (blk_b hC h.out)
  exact ⟨a, b, c⟩
end Geo
end Go.Proofs.YtldgihlhioeipaaGreat
