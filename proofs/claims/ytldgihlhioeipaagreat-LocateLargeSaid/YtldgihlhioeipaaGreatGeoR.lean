/- The points of a box. -/
import Derived.Test.YtldgihlhioeipaaGreatGeoN
namespace Go.Proofs.YtldgihlhioeipaaGreat
open Go.RowKit
namespace Geo
def Hs (x y c : Int) (k : Nat) : List (Int × Int × Int) := (List.range k).map fun (i : Nat) => (x, y, c + (i : Int))
def Gs (x b c : Int) (Z : Nat) (j : Nat) : List (Int × Int × Int) := (List.range j).flatMap fun (i : Nat) => Hs x (b + (i : Int)) c Z
def Fs (a b c : Int) (Y Z : Nat) (i : Nat) : List (Int × Int × Int) := (List.range i).flatMap fun (t : Nat) => Gs (a + (t : Int)) b c Z Y
theorem Hs_succ (x y c : Int) (k : Nat) : Hs x y c (k + 1) = Hs x y c k ++ [(x, y, c + (k : Int))] := by simp [Hs, List.range_succ]
theorem Gs_succ (x b c : Int) (Z j : Nat) : Gs x b c Z (j + 1) = Gs x b c Z j ++ Hs x (b + (j : Int)) c Z := by simp [Gs, List.range_succ]
theorem Fs_succ (a b c : Int) (Y Z i : Nat) : Fs a b c Y Z (i + 1) = Fs a b c Y Z i ++ Gs (a + (i : Int)) b c Z Y := by simp [Fs, List.range_succ]
theorem Hs_length (x y c : Int) (k : Nat) : (Hs x y c k).length = k := by simp [Hs]
theorem Gs_length (x b c : Int) (Z j : Nat) : (Gs x b c Z j).length = j * Z := by
  induction j with
  | zero => simp [Gs]
  | succ j ih => rw [Gs_succ, List.length_append, ih, Hs_length, Nat.add_mul, Nat.one_mul]
theorem Fs_length (a b c : Int) (Y Z i : Nat) : (Fs a b c Y Z i).length = i * (Y * Z) := by
  induction i with
  | zero => simp [Fs]
  | succ i ih => rw [Fs_succ, List.length_append, ih, Gs_length, Nat.add_mul, Nat.one_mul]
theorem Fs_mem {a b c : Int} {Y Z i : Nat} {p : Int × Int × Int} : p ∈ Fs a b c Y Z i ↔ (a ≤ p.1 ∧ p.1 < a + i) ∧ (b ≤ p.2.1 ∧ p.2.1 < b + Y) ∧ (c ≤ p.2.2 ∧ p.2.2 < c + Z) := by
  obtain ⟨x, y, z⟩ := p
  simp only [Fs, Gs, Hs, List.mem_flatMap, List.mem_map, List.mem_range, Prod.mk.injEq]
  constructor
  · rintro ⟨t, ht, u, hu, v, hv, rfl, rfl, rfl⟩
    exact ⟨⟨by omega, by omega⟩, ⟨by omega, by omega⟩, by omega, by omega⟩
  · rintro ⟨⟨h1, h2⟩, ⟨h3, h4⟩, h5, h6⟩
    exact ⟨(x - a).toNat, by omega, (y - b).toNat, by omega, (z - c).toNat, by omega, by omega, by omega, by omega⟩
theorem wiB_pt' (p q r x1 x2 x3 x4 x5 x6 : Int) : wiB p q r p q r x1 x2 x3 x4 x5 x6 = decide (x1 ≤ p ∧ p ≤ x4 ∧ x2 ≤ q ∧ q ≤ x5 ∧ x3 ≤ r ∧ r ≤ x6) := rfl
theorem sq3_bd' {a b c d e f : Int} (h1 : PV a b c) (h2 : PV d e f) : sq3 a b c d e f ≤ 13194139533312 := by
  obtain ⟨ax0, ax1, ay0, ay1, az0, az1⟩ := h1
  obtain ⟨bx0, bx1, by0, by1, bz0, bz1⟩ := h2
  unfold sq3
  have s1 := (sq_bd (show -2097152 ≤ a - d by omega) (show a - d ≤ 2097152 by omega)).2
  have s3 := (sq_bd (show -2097152 ≤ b - e by omega) (show b - e ≤ 2097152 by omega)).2
  have s5 := (sq_bd (show -2097152 ≤ c - f by omega) (show c - f ≤ 2097152 by omega)).2
  omega
/-- The least and the greatest squared distance to points. -/
def minL (x y z : Int) (l : List (Int × Int × Int)) : Int := l.foldl (fun m q => min m (sq3 x y z q.1 q.2.1 q.2.2)) 1152921504606846976
def maxL (x y z : Int) (l : List (Int × Int × Int)) : Int := l.foldl (fun m q => max m (sq3 x y z q.1 q.2.1 q.2.2)) 0
theorem minL_snoc (x y z : Int) (l : List (Int × Int × Int)) (q : Int × Int × Int) : minL x y z (l ++ [q]) = min (minL x y z l) (sq3 x y z q.1 q.2.1 q.2.2) := by simp [minL, List.foldl_append]
theorem maxL_snoc (x y z : Int) (l : List (Int × Int × Int)) (q : Int × Int × Int) : maxL x y z (l ++ [q]) = max (maxL x y z l) (sq3 x y z q.1 q.2.1 q.2.2) := by simp [maxL, List.foldl_append]
theorem foldMin (f : Int × Int × Int → Int) (l : List (Int × Int × Int)) (i : Int) : (l.foldl (fun m q => min m (f q)) i ≤ i ∧ ∀ q ∈ l, l.foldl (fun m q => min m (f q)) i ≤ f q) ∧ (l.foldl (fun m q => min m (f q)) i = i ∨ ∃ q ∈ l, l.foldl (fun m q => min m (f q)) i = f q) := by
  induction l generalizing i with
  | nil => simp
  | cons p l ih =>
    obtain ⟨⟨h1, h2⟩, h3⟩ := ih (min i (f p))
    simp only [List.foldl_cons]
    generalize List.foldl (fun m q => min m (f q)) (min i (f p)) l = r at *
    refine ⟨⟨by omega, fun q hq => ?_⟩, ?_⟩
    · rcases List.mem_cons.1 hq with rfl | hq
      · omega
      · exact h2 q hq
    · rcases h3 with h3 | ⟨q, hq, h3⟩
      · by_cases hc : i ≤ f p
        · left; omega
        · right; exact ⟨p, by simp, by omega⟩
      · right; exact ⟨q, by simp [hq], h3⟩
theorem foldMax (f : Int × Int × Int → Int) (l : List (Int × Int × Int)) (i : Int) : (i ≤ l.foldl (fun m q => max m (f q)) i ∧ ∀ q ∈ l, f q ≤ l.foldl (fun m q => max m (f q)) i) ∧ (l.foldl (fun m q => max m (f q)) i = i ∨ ∃ q ∈ l, l.foldl (fun m q => max m (f q)) i = f q) := by
  induction l generalizing i with
  | nil => simp
  | cons p l ih =>
    obtain ⟨⟨h1, h2⟩, h3⟩ := ih (max i (f p))
    simp only [List.foldl_cons]
    generalize List.foldl (fun m q => max m (f q)) (max i (f p)) l = r at *
    refine ⟨⟨by omega, fun q hq => ?_⟩, ?_⟩
    · rcases List.mem_cons.1 hq with rfl | hq
      · omega
      · exact h2 q hq
    · rcases h3 with h3 | ⟨q, hq, h3⟩
      · by_cases hc : f p ≤ i
        · left; omega
        · right; exact ⟨p, by simp, by omega⟩
      · right; exact ⟨q, by simp [hq], h3⟩
theorem sq_swap (u v : Int) : (u - v) * (u - v) = (v - u) * (v - u) := by grind
theorem sq_lo {n u v : Int} (h0 : 0 ≤ n) (h : n ≤ u - v ∨ n ≤ v - u) : n * n ≤ (u - v) * (u - v) := by
  rcases h with h | h
  · exact sqm h0 h
  · rw [sq_swap]; exact sqm h0 h
theorem sq_hi {n u v : Int} (h : u - v ≤ n) (h' : v - u ≤ n) : (u - v) * (u - v) ≤ n * n := by
  by_cases hc : 0 ≤ u - v
  · exact sqm hc h
  · rw [sq_swap]; exact sqm (by omega) h'
theorem sq_at {n u v : Int} (h : n = u - v ∨ n = v - u) : (u - v) * (u - v) = n * n := by
  rcases h with rfl | rfl
  · rfl
  · exact sq_swap u v
theorem near_le {a b c d e f x y z p q r : Int} (k1 : a ≤ p) (k2 : p ≤ d) (k3 : b ≤ q) (k4 : q ≤ e) (k5 : c ≤ r) (k6 : r ≤ f) : near3 a b c d e f x y z ≤ sq3 x y z p q r := by
  unfold near3 sq3
  have j1 := sq_lo (n := max (a - x) (max (x - d) 0)) (u := x) (v := p) (by omega) (by omega)
  have j2 := sq_lo (n := max (b - y) (max (y - e) 0)) (u := y) (v := q) (by omega) (by omega)
  have j3 := sq_lo (n := max (c - z) (max (z - f) 0)) (u := z) (v := r) (by omega) (by omega)
  omega
theorem far_ge {a b c d e f x y z p q r : Int} (k1 : a ≤ p) (k2 : p ≤ d) (k3 : b ≤ q) (k4 : q ≤ e) (k5 : c ≤ r) (k6 : r ≤ f) : sq3 x y z p q r ≤ far3 a b c d e f x y z := by
  unfold far3 sq3
  have j1 := sq_hi (n := max (d - x) (x - a)) (u := x) (v := p) (by omega) (by omega)
  have j2 := sq_hi (n := max (e - y) (y - b)) (u := y) (v := q) (by omega) (by omega)
  have j3 := sq_hi (n := max (f - z) (z - c)) (u := z) (v := r) (by omega) (by omega)
  omega
theorem near_at {a b c d e f : Int} (x y z : Int) (h1 : a ≤ d) (h2 : b ≤ e) (h3 : c ≤ f) : ∃ p q r : Int, (a ≤ p ∧ p ≤ d) ∧ (b ≤ q ∧ q ≤ e) ∧ (c ≤ r ∧ r ≤ f) ∧ sq3 x y z p q r = near3 a b c d e f x y z := by
  refine ⟨max a (min x d), max b (min y e), max c (min z f), by omega, by omega, by omega, ?_⟩
  unfold near3 sq3
  rw [sq_at (n := max (a - x) (max (x - d) 0)) (u := x) (v := max a (min x d)) (by omega), sq_at (n := max (b - y) (max (y - e) 0)) (u := y) (v := max b (min y e)) (by omega), sq_at (n := max (c - z) (max (z - f) 0)) (u := z) (v := max c (min z f)) (by omega)]
theorem end_at (lo hi x : Int) (h : lo ≤ hi) : ∃ p : Int, (lo ≤ p ∧ p ≤ hi) ∧ (x - p) * (x - p) = (max (hi - x) (x - lo)) * (max (hi - x) (x - lo)) := by
  by_cases hc : x - lo ≤ hi - x
  · exact ⟨hi, ⟨h, Int.le_refl _⟩, sq_at (by omega)⟩
  · exact ⟨lo, ⟨Int.le_refl _, h⟩, sq_at (by omega)⟩
theorem far_at {a b c d e f : Int} (x y z : Int) (h1 : a ≤ d) (h2 : b ≤ e) (h3 : c ≤ f) : ∃ p q r : Int, (a ≤ p ∧ p ≤ d) ∧ (b ≤ q ∧ q ≤ e) ∧ (c ≤ r ∧ r ≤ f) ∧ sq3 x y z p q r = far3 a b c d e f x y z := by
  obtain ⟨p, hp, e1⟩ := end_at a d x h1
  obtain ⟨q, hq, e2⟩ := end_at b e y h2
  obtain ⟨r, hr, e3⟩ := end_at c f z h3
  exact ⟨p, q, r, hp, hq, hr, by unfold far3 sq3; omega⟩
theorem min_all {a b c d e f x y z : Int} {X Y Z : Nat} (hX : (X : Int) = d - a + 1) (hY : (Y : Int) = e - b + 1) (hZ : (Z : Int) = f - c + 1) (h1 : a ≤ d) (h2 : b ≤ e) (h3 : c ≤ f) (hs : near3 a b c d e f x y z ≤ 1152921504606846976) :
    minL x y z (Fs a b c Y Z X) = near3 a b c d e f x y z := by
  obtain ⟨⟨k1, k2⟩, k3⟩ := foldMin (fun q => sq3 x y z q.1 q.2.1 q.2.2) (Fs a b c Y Z X) 1152921504606846976
  obtain ⟨p, q, r, hp, hq, hr, he⟩ := near_at x y z h1 h2 h3
  have j1 := k2 (p, q, r) (Fs_mem.2 ⟨⟨hp.1, by simp only; omega⟩, ⟨hq.1, by simp only; omega⟩, hr.1, by simp only; omega⟩)
  simp only at j1
  have j2 : near3 a b c d e f x y z ≤ minL x y z (Fs a b c Y Z X) := by
    unfold minL
    rcases k3 with k3 | ⟨s, hs', k3⟩
    · rw [k3]; exact hs
    · rw [k3]
      obtain ⟨⟨m1, m2⟩, ⟨m3, m4⟩, m5, m6⟩ := Fs_mem.1 hs'
      exact near_le m1 (by omega) m3 (by omega) m5 (by omega)
  have j3 : minL x y z (Fs a b c Y Z X) ≤ sq3 x y z p q r := j1
  omega
theorem max_all {a b c d e f x y z : Int} {X Y Z : Nat} (hX : (X : Int) = d - a + 1) (hY : (Y : Int) = e - b + 1) (hZ : (Z : Int) = f - c + 1) (h1 : a ≤ d) (h2 : b ≤ e) (h3 : c ≤ f) :
    maxL x y z (Fs a b c Y Z X) = far3 a b c d e f x y z := by
  obtain ⟨⟨k1, k2⟩, k3⟩ := foldMax (fun q => sq3 x y z q.1 q.2.1 q.2.2) (Fs a b c Y Z X) 0
  obtain ⟨p, q, r, hp, hq, hr, he⟩ := far_at x y z h1 h2 h3
  have j1 := k2 (p, q, r) (Fs_mem.2 ⟨⟨hp.1, by simp only; omega⟩, ⟨hq.1, by simp only; omega⟩, hr.1, by simp only; omega⟩)
  simp only at j1
  have j3 : sq3 x y z p q r ≤ maxL x y z (Fs a b c Y Z X) := j1
  have j0 : 0 ≤ far3 a b c d e f x y z := by
    unfold far3
    have := prod_bd (u := max (d - x) (x - a)) (m := max (d - x) (x - a)) (by omega) (by omega)
    have := prod_bd (u := max (e - y) (y - b)) (m := max (e - y) (y - b)) (by omega) (by omega)
    have := prod_bd (u := max (f - z) (z - c)) (m := max (f - z) (z - c)) (by omega) (by omega)
    omega
  have j2 : maxL x y z (Fs a b c Y Z X) ≤ far3 a b c d e f x y z := by
    unfold maxL
    rcases k3 with k3 | ⟨s, hs', k3⟩
    · rw [k3]; exact j0
    · rw [k3]
      obtain ⟨⟨m1, m2⟩, ⟨m3, m4⟩, m5, m6⟩ := Fs_mem.1 hs'
      exact far_ge m1 (by omega) m3 (by omega) m5 (by omega)
  omega
theorem count_all {a b c d e f : Int} {X Y Z : Nat} (hX : (X : Int) = d - a + 1) (hY : (Y : Int) = e - b + 1) (hZ : (Z : Int) = f - c + 1) : (((Fs a b c Y Z X).length : Nat) : Int) = pts a b c d e f := by
  rw [Fs_length]
  unfold pts
  rw [Int.natCast_mul, Int.natCast_mul, hX, hY, hZ, Int.mul_assoc]
end Geo
end Go.Proofs.YtldgihlhioeipaaGreat
