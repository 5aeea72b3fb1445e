/- Travel times as functions of squared distances; the contracts of Interval and Zone in that form. -/
import Derived.Test.YtldgihlhioeipaaBoundB
import Derived.Test.YtldgihlhioeipaaGeoQ
import Derived.Test.YtldgihlhioeipaaGeoR
import Derived.Test.YtldgihlhioeipaaTravLN
set_option linter.unusedVariables false
namespace Go.Proofs.Ytldgihlhioeipaa
open Go.RowKit
namespace Bound
def LO (s : Int) (lo : List Int) (m : Int) : Int := lo.getD (Root.rt m 32 / s).toNat 0
def HI (s : Int) (hi : List Int) (m : Int) : Int := hi.getD ((Root.ce m + s - 1) / s).toNat 0
theorem rt_mono {m m' : Int} (m0 : 0 ≤ m) (h : m ≤ m') (h9 : m' ≤ 4611686018427387904) : Root.rt m 32 ≤ Root.rt m' 32 := by
  obtain ⟨a0, _, a1, _⟩ := Root.rt_spec m m0 (by omega)
  obtain ⟨b0, _, _, b2⟩ := Root.rt_spec m' (by omega) h9
  by_cases hc : Root.rt m 32 ≤ Root.rt m' 32
  · exact hc
  · have h1 : (Root.rt m' 32 + 1) * (Root.rt m' 32 + 1) ≤ Root.rt m 32 * Root.rt m 32 := Int.mul_le_mul (by omega) (by omega) (by omega) a0
    omega
theorem ce_mono {m m' : Int} (m0 : 0 ≤ m) (h : m ≤ m') (h9 : m' ≤ 4611686018427387904) : Root.ce m ≤ Root.ce m' := by
  obtain ⟨b0, _, b2⟩ := Trav.ce_spec m' (by omega) h9
  exact (Trav.ce_le m0 (by omega) b0 (by omega)).2
/-- A table whose reach is at least 400. -/
structure Wide (w : World) (s : Int) (b1 b2 n : Nat) (lo hi : List Int) : Prop where
  tv : Trav.TV w s b1 b2 n lo hi
  re : 400 ≤ s * ((n : Int) - 1)
theorem ce400 {m : Int} (m0 : 0 ≤ m) (m9 : m ≤ 160000) : 0 ≤ Root.rt m 32 ∧ Root.rt m 32 ≤ Root.ce m ∧ Root.ce m ≤ 400 := by
  obtain ⟨h1, h2⟩ := Trav.ce_le (m := m) (r := 400) m0 (by omega) (by decide) (by omega)
  exact ⟨(Root.rt_spec m m0 (by omega)).1, h1, h2⟩
theorem Wide.at {w : World} {s : Int} {b1 b2 n : Nat} {lo hi : List Int} (h : Wide w s b1 b2 n lo hi) {m : Int} (m0 : 0 ≤ m) (m9 : m ≤ 160000) :
    ∃ q1 q2 : Nat, (q1 : Int) = Root.rt m 32 / s ∧ (q2 : Int) = (Root.ce m + s - 1) / s ∧ q1 ≤ q2 ∧ q2 < n ∧ LO s lo m = lo.getD q1 0 ∧ HI s hi m = hi.getD q2 0 := by
  obtain ⟨r0, r1, r2⟩ := ce400 m0 m9
  have s1 := h.tv.s1
  have re := h.re
  obtain ⟨q1, e1, l1⟩ := Trav.idx_lo (s := s) (n := n) (x := Root.rt m 32) s1 r0 (by omega)
  obtain ⟨q2, e2, l2⟩ := Trav.idx_hi (s := s) (n := n) (x := Root.ce m) s1 (by omega) (by omega)
  have h12 : Root.rt m 32 / s ≤ (Root.ce m + s - 1) / s := Int.ediv_le_ediv (by omega) (by omega)
  refine ⟨q1, q2, e1, e2, by omega, l2, ?_, ?_⟩
  · unfold LO; rw [← e1]; simp
  · unfold HI; rw [← e2]; simp
theorem Wide.bd {w : World} {s : Int} {b1 b2 n : Nat} {lo hi : List Int} (h : Wide w s b1 b2 n lo hi) {m : Int} (m0 : 0 ≤ m) (m9 : m ≤ 160000) :
    0 ≤ LO s lo m ∧ LO s lo m ≤ HI s hi m ∧ HI s hi m ≤ 1099511627776 := by
  obtain ⟨q1, q2, _, _, h12, l2, e3, e4⟩ := h.at m0 m9
  rw [e3, e4]
  have v1 := h.tv.val q1 (by omega)
  have v2 := h.tv.val q2 l2
  have mo := h.tv.mono q1 q2 h12 l2
  omega
theorem Wide.mono {w : World} {s : Int} {b1 b2 n : Nat} {lo hi : List Int} (h : Wide w s b1 b2 n lo hi) {m m' : Int} (m0 : 0 ≤ m) (hm : m ≤ m') (m9 : m' ≤ 160000) :
    LO s lo m ≤ LO s lo m' ∧ HI s hi m ≤ HI s hi m' := by
  obtain ⟨q1, q2, a1, a2, _, l2, e3, e4⟩ := h.at m0 (by omega)
  obtain ⟨p1, p2, c1, c2, _, k2, f3, f4⟩ := h.at (m := m') (by omega) m9
  have s1 := h.tv.s1
  have r1 := rt_mono m0 hm (by omega)
  have r2 := ce_mono m0 hm (by omega)
  have d1 : Root.rt m 32 / s ≤ Root.rt m' 32 / s := Int.ediv_le_ediv (by omega) r1
  have d2 : (Root.ce m + s - 1) / s ≤ (Root.ce m' + s - 1) / s := Int.ediv_le_ediv (by omega) (by omega)
  rw [e3, e4, f3, f4]
  exact ⟨(h.tv.mono q1 p1 (by omega) (by omega)).1, (h.tv.mono q2 p2 (by omega) k2).2⟩
theorem Wide.below {W w : World} {s : Int} {b1 b2 n : Nat} {lo hi : List Int} (h : Wide W s b1 b2 n lo hi) (hb : Below W.heap.size W w) : Wide w s b1 b2 n lo hi := ⟨h.tv.below hb, h.re⟩
theorem one1 (a x : Int) : max (a - x) (max (x - a) 0) * max (a - x) (max (x - a) 0) = (a - x) * (a - x) := by
  rcases Int.le_total a x with h | h
  · have e : max (a - x) (max (x - a) 0) = x - a := by omega
    rw [e]; grind
  · have e : max (a - x) (max (x - a) 0) = a - x := by omega
    rw [e]
theorem far_small {a b c d e f x y z : Int} (h : Geo.BV a b c d e f) (d9 : d ≤ a + 40) (e9 : e ≤ b + 40) (f9 : f ≤ c + 40) (a0 : -60 ≤ a) (a1 : a ≤ 60) (b0 : -60 ≤ b) (b1 : b ≤ 60) (c0 : 0 ≤ c) (c1 : c ≤ 60)
    (x0 : -60 ≤ x) (x1 : x ≤ 60) (y0 : -60 ≤ y) (y1 : y ≤ 60) (z0 : 0 ≤ z) (z1 : z ≤ 60) : Geo.far3 a b c d e f x y z ≤ 160000 := by
  have hx := h.x
  have hy := h.y
  have hz := h.z
  obtain ⟨_, u1⟩ := Geo.prod_bd (u := max (d - x) (x - a)) (m := 160) (by omega) (by omega)
  obtain ⟨_, u2⟩ := Geo.prod_bd (u := max (e - y) (y - b)) (m := 160) (by omega) (by omega)
  obtain ⟨_, u3⟩ := Geo.prod_bd (u := max (f - z) (z - c)) (m := 160) (by omega) (by omega)
  unfold Geo.far3
  omega
set_option maxRecDepth 100000 in
theorem box_int (s : Int) (b1 b2 n c1 c2 : Nat) (lo hi : List Int) (a b c d e f x y z : Int) (w : World) (h : Wide w s b1 b2 n lo hi) (h1 : Geo.BV a b c d e f) (h2 : Geo.PV x y z) (hf : Geo.far3 a b c d e f x y z ≤ 160000) :
    Calls Try.prog 71 #[.agg #[.int .i64 s, .slice (some ⟨b1, 0, none⟩) n c1, .slice (some ⟨b2, 0, none⟩) n c2], .agg #[.int .i64 a, .int .i64 b, .int .i64 c, .int .i64 d, .int .i64 e, .int .i64 f], .agg #[.int .i64 x, .int .i64 y, .int .i64 z]] w fun r w' => r = .returned (.tuple #[.int .i64 (LO s lo (Geo.near3 a b c d e f x y z)), .int .i64 (HI s hi (Geo.far3 a b c d e f x y z)), .int .i64 0]) ∧ Below w.heap.size w w' := by
  obtain ⟨m0, m1, _⟩ := near_far h1 h2
  obtain ⟨q1, _, e1, _, _, _, e3, _⟩ := h.at m0 (by omega)
  obtain ⟨_, q2, _, e2, _, _, _, e4⟩ := h.at (by omega) hf
  rw [e3, e4]
  have := ce400 (by omega) hf
  have re := h.re
  exact interval_ok s b1 b2 n c1 c2 lo hi a b c d e f x y z q1 q2 w h.tv h1 h2 (by omega) e1 e2
theorem zone_bx (s : Int) (b1 b2 n c1 c2 : Nat) (lo hi : List Int) (a b c d e f x y z E L W : Int) (w : World) (h : Wide w s b1 b2 n lo hi) (h1 : Geo.BV a b c d e f) (hp : PhV x y z E L W) (hf : Geo.far3 a b c d e f x y z ≤ 160000) :
    Calls Try.prog 73 #[.agg #[.int .i64 s, .slice (some ⟨b1, 0, none⟩) n c1, .slice (some ⟨b2, 0, none⟩) n c2], .agg #[.int .i64 a, .int .i64 b, .int .i64 c, .int .i64 d, .int .i64 e, .int .i64 f], .agg #[.int .i64 x, .int .i64 y, .int .i64 z, .int .i64 E, .int .i64 L, .int .i64 W]] w fun r w' => r = .returned (.tuple #[.agg #[.int .i64 (E - HI s hi (Geo.far3 a b c d e f x y z)), .int .i64 (L - LO s lo (Geo.near3 a b c d e f x y z))], .int .i64 0]) ∧ Below w.heap.size w w' := by
  obtain ⟨m0, m1, _⟩ := near_far h1 hp.pv
  obtain ⟨q1, _, e1, _, _, _, e3, _⟩ := h.at m0 (by omega)
  obtain ⟨_, q2, _, e2, _, _, _, e4⟩ := h.at (by omega) hf
  have b0 := h.bd m0 (by omega)
  have b1' := h.bd (by omega) hf
  have mo := h.mono m0 m1 hf
  have := ce400 (by omega) hf
  have re := h.re
  rw [e3] at b0 mo
  rw [e4] at b1' mo
  rw [e3, e4]
  exact zone_ok s b1 b2 n c1 c2 lo hi a b c d e f x y z E L W q1 q2 w h.tv h1 hp (by omega) e1 e2 (by omega) (by omega) (by omega)
set_option maxRecDepth 100000 in
theorem one_any (x y z : Int) (w : World) :
    Calls Try.prog 47 #[.agg #[.int .i64 x, .int .i64 y, .int .i64 z]] w fun r w' => r = .returned (.agg #[.int .i64 x, .int .i64 y, .int .i64 z, .int .i64 x, .int .i64 y, .int .i64 z]) ∧ Below w.heap.size w w' := by
  go_enter Try.func47, Try.ntmps47
  go_wp2
  exact bodyPost_ret (v := .agg #[.int .i64 x, .int .i64 y, .int .i64 z, .int .i64 x, .int .i64 y, .int .i64 z]) (by simp [results, Try.results47, go_sem]) rfl ⟨rfl, Trav.bel2 _ _⟩
end Bound
end Go.Proofs.Ytldgihlhioeipaa
