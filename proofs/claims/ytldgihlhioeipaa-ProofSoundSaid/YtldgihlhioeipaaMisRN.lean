/- Zones, At, Bound of the reader's problems; the mathematics of the laws of misfits. -/
import Derived.Test.YtldgihlhioeipaaMisO
import Derived.Test.YtldgihlhioeipaaMisD
import Derived.ArgAppend
import Derived.Deep.OwnRows
set_option linter.unusedVariables false
set_option linter.unusedSimpArgs false
namespace Go.Proofs.Ytldgihlhioeipaa
open Go.RowKit
namespace Mis
def zfun (s : Int) (lo hi : List Int) (p1 p2 p3 q1 q2 q3 : Int) (q : Ph) : Int × Int := (q.E - Bound.HI s hi (Geo.far3 p1 p2 p3 q1 q2 q3 q.x q.y q.z), q.L - Bound.LO s lo (Geo.near3 p1 p2 p3 q1 q2 q3 q.x q.y q.z))
structure PhS (q : Ph) : Prop where
  x0 : -60 ≤ q.x
  x1 : q.x ≤ 60
  y0 : -60 ≤ q.y
  y1 : q.y ≤ 60
  z0 : 0 ≤ q.z
  z1 : q.z ≤ 60
  e0 : 0 ≤ q.E
  el : q.E ≤ q.L
  l9 : q.L ≤ 3298534883328
  w1 : 1 ≤ q.W
  w4 : q.W ≤ 4
theorem PhG.s {q : Ph} (h : PhG q) : PhS q := ⟨h.x0, h.x1, h.y0, h.y1, h.z0, h.z1, h.e0, h.el, by have := h.l9; omega, h.w1, h.w4⟩
theorem PhS.v {q : Ph} (h : PhS q) : Bound.PhV q.x q.y q.z q.E q.L q.W := by
  obtain ⟨x0, x1, y0, y1, z0, z1, e0, el, l9, w1, w4⟩ := h
  exact ⟨⟨by omega, by omega, by omega, by omega, by omega, by omega⟩, e0, el, by omega, w1, by omega⟩
/-- A region as the reader makes it. -/
structure Rg (a b c d e f : Int) : Prop where
  bv : Geo.BV a b c d e f
  s1 : d ≤ a + 30
  s2 : e ≤ b + 30
  s3 : f ≤ c + 30
  x0 : -20 ≤ a
  x1 : a ≤ 20
  y0 : -20 ≤ b
  y1 : b ≤ 20
  z0 : 0 ≤ c
  z1 : c ≤ 20
/-- A box within another. -/
structure Sub (a b c d e f p1 p2 p3 q1 q2 q3 : Int) : Prop where
  l1 : a ≤ p1
  l2 : b ≤ p2
  l3 : c ≤ p3
  m1 : p1 ≤ q1
  m2 : p2 ≤ q2
  m3 : p3 ≤ q3
  h1 : q1 ≤ d
  h2 : q2 ≤ e
  h3 : q3 ≤ f
section
variable {a b c d e f p1 p2 p3 q1 q2 q3 : Int}
theorem Sub.bv (S : Sub a b c d e f p1 p2 p3 q1 q2 q3) (R : Geo.BV a b c d e f) : Geo.BV p1 p2 p3 q1 q2 q3 := by
  obtain ⟨⟨_, _, _, _, _, _⟩, ⟨_, _, _, _, _, _⟩, _, _, _⟩ := R
  obtain ⟨_, _, _, _, _, _, _, _, _⟩ := S
  exact ⟨⟨by omega, by omega, by omega, by omega, by omega, by omega⟩, ⟨by omega, by omega, by omega, by omega, by omega, by omega⟩, by omega, by omega, by omega⟩
theorem Sub.refl (R : Geo.BV a b c d e f) : Sub a b c d e f a b c d e f := ⟨by omega, by omega, by omega, R.x, R.y, R.z, by omega, by omega, by omega⟩
theorem Sub.wi (S : Sub a b c d e f p1 p2 p3 q1 q2 q3) : Geo.wiB p1 p2 p3 q1 q2 q3 a b c d e f = true := by
  obtain ⟨_, _, _, _, _, _, _, _, _⟩ := S
  unfold Geo.wiB
  simp
  omega
theorem near1 {a d p q x : Int} (h1 : a ≤ p) (h2 : q ≤ d) : max (a - x) (max (x - d) 0) * max (a - x) (max (x - d) 0) ≤ max (p - x) (max (x - q) 0) * max (p - x) (max (x - q) 0) :=
  Int.mul_le_mul (by omega) (by omega) (by omega) (by omega)
theorem far1 {a d p q x : Int} (h1 : a ≤ p) (hm : p ≤ q) (h2 : q ≤ d) : max (q - x) (x - p) * max (q - x) (x - p) ≤ max (d - x) (x - a) * max (d - x) (x - a) :=
  Int.mul_le_mul (by omega) (by omega) (by omega) (by omega)
theorem Sub.near (S : Sub a b c d e f p1 p2 p3 q1 q2 q3) (x y z : Int) : Geo.near3 a b c d e f x y z ≤ Geo.near3 p1 p2 p3 q1 q2 q3 x y z := by
  unfold Geo.near3
  have := near1 (x := x) S.l1 S.h1
  have := near1 (x := y) S.l2 S.h2
  have := near1 (x := z) S.l3 S.h3
  omega
theorem Sub.far (S : Sub a b c d e f p1 p2 p3 q1 q2 q3) (x y z : Int) : Geo.far3 p1 p2 p3 q1 q2 q3 x y z ≤ Geo.far3 a b c d e f x y z := by
  unfold Geo.far3
  have := far1 (x := x) S.l1 S.m1 S.h1
  have := far1 (x := y) S.l2 S.m2 S.h2
  have := far1 (x := z) S.l3 S.m3 S.h3
  omega
theorem Rg.far (R : Rg a b c d e f) {q : Ph} (h : PhS q) : Geo.far3 a b c d e f q.x q.y q.z ≤ 160000 := by
  obtain ⟨bv, s1, s2, s3, x0, x1, y0, y1, z0, z1⟩ := R
  exact Bound.far_small bv (by omega) (by omega) (by omega) (by omega) (by omega) (by omega) (by omega) z0 (by omega) h.x0 h.x1 h.y0 h.y1 h.z0 h.z1
/-- What is known of the zones. -/
structure Zk (s : Int) (lo hi : List Int) (p1 p2 p3 q1 q2 q3 : Int) (q : Ph) : Prop where
  m0 : 0 ≤ Geo.near3 p1 p2 p3 q1 q2 q3 q.x q.y q.z
  m1 : Geo.near3 p1 p2 p3 q1 q2 q3 q.x q.y q.z ≤ Geo.far3 p1 p2 p3 q1 q2 q3 q.x q.y q.z
  m9 : Geo.far3 p1 p2 p3 q1 q2 q3 q.x q.y q.z ≤ 160000
  lo0 : 0 ≤ Bound.LO s lo (Geo.near3 p1 p2 p3 q1 q2 q3 q.x q.y q.z)
  lh : Bound.LO s lo (Geo.near3 p1 p2 p3 q1 q2 q3 q.x q.y q.z) ≤ Bound.HI s hi (Geo.far3 p1 p2 p3 q1 q2 q3 q.x q.y q.z)
  h9 : Bound.HI s hi (Geo.far3 p1 p2 p3 q1 q2 q3 q.x q.y q.z) ≤ 1099511627776
theorem zk_of {w : World} {s : Int} {b1 b2 n : Nat} {lo hi : List Int} (R : Rg a b c d e f) (S : Sub a b c d e f p1 p2 p3 q1 q2 q3) (W : Bound.Wide w s b1 b2 n lo hi) {q : Ph} (h : PhS q) : Zk s lo hi p1 p2 p3 q1 q2 q3 q := by
  obtain ⟨m0, m1, _⟩ := Bound.near_far (S.bv R.bv) h.v.pv
  have m9 : Geo.far3 p1 p2 p3 q1 q2 q3 q.x q.y q.z ≤ 160000 := Int.le_trans (S.far _ _ _) (R.far h)
  have i1 := W.bd m0 (by omega)
  have i2 := W.bd (m := Geo.far3 p1 p2 p3 q1 q2 q3 q.x q.y q.z) (by omega) m9
  have i3 := W.mono m0 m1 m9
  exact ⟨m0, m1, m9, i1.1, by omega, i2.2.2⟩
theorem zone_of {w : World} {s : Int} {b1 b2 n c1 c2 : Nat} {lo hi : List Int} (R : Rg a b c d e f) (S : Sub a b c d e f p1 p2 p3 q1 q2 q3) (W : Bound.Wide w s b1 b2 n lo hi) {q : Ph} (h : PhS q) :
    Calls Try.prog 73 #[.agg #[.int .i64 s, .slice (some ⟨b1, 0, none⟩) n c1, .slice (some ⟨b2, 0, none⟩) n c2], .agg #[.int .i64 p1, .int .i64 p2, .int .i64 p3, .int .i64 q1, .int .i64 q2, .int .i64 q3], .agg #[.int .i64 q.x, .int .i64 q.y, .int .i64 q.z, .int .i64 q.E, .int .i64 q.L, .int .i64 q.W]] w fun r w' => r = .returned (.tuple #[.agg #[.int .i64 (zfun s lo hi p1 p2 p3 q1 q2 q3 q).1, .int .i64 (zfun s lo hi p1 p2 p3 q1 q2 q3 q).2], .int .i64 0]) ∧ Below w.heap.size w w' :=
  Bound.zone_bx s b1 b2 n c1 c2 lo hi p1 p2 p3 q1 q2 q3 q.x q.y q.z q.E q.L q.W w W (S.bv R.bv) h.v (Int.le_trans (S.far _ _ _) (R.far h))
/-- Phases that a problem may have. -/
def PhAllS (L : List Ph) : Prop := ∀ (k : Nat) (q : Ph), L[k]? = some q → PhS q
theorem pk_of {s : Int} {b1 b2 n : Nat} (c1 c2 : Nat) {lo hi : List Int} (R : Rg a b c d e f) {L : List Ph} (hL : PhAllS L) (n1 : 1 ≤ L.length) (n9 : L.length ≤ 64) {cap : Int} (c0 : 1 ≤ cap) (c9 : cap ≤ 2000) :
    Pk (fun w => Bound.Wide w s b1 b2 n lo hi) a b c d e f s b1 b2 n c1 c2 cap L :=
  ⟨fun w w' h hb => h.below hb, R.bv, fun w h => Trav.validate_yes s b1 b2 n c1 c2 lo hi w h.tv, n1, n9, c0, c9, fun k q h => (hL k q h).v,
    fun k q h w hw => (Bound.box_int s b1 b2 n c1 c2 lo hi a b c d e f q.x q.y q.z w hw R.bv (hL k q h).v.pv (R.far (hL k q h))).mono fun e w' ⟨he, hb⟩ => ⟨⟨_, _, he⟩, hb⟩⟩
theorem map_some {L : List Ph} {zf : Ph → Int × Int} {k : Nat} {z : Int × Int} (h : (L.map zf)[k]? = some z) : ∃ q, L[k]? = some q ∧ z = zf q := by
  rw [List.getElem?_map] at h
  cases hh : L[k]? with
  | none => rw [hh] at h; cases h
  | some q => rw [hh] at h; exact ⟨q, rfl, by simpa using h.symm⟩
theorem cs_of {w : World} {s : Int} {b1 b2 n : Nat} {lo hi : List Int} (R : Rg a b c d e f) (S : Sub a b c d e f p1 p2 p3 q1 q2 q3) (W : Bound.Wide w s b1 b2 n lo hi) {L : List Ph} (hL : PhAllS L) (n1 : 1 ≤ L.length) (n9 : L.length ≤ 64) {cap : Int} (c0 : 1 ≤ cap) (c9 : cap ≤ 2000) :
    Cs cap L (L.map (zfun s lo hi p1 p2 p3 q1 q2 q3)) := by
  refine ⟨c0, c9, n1, n9, by simp, fun k q h => by have := hL k q h; have := this.w1; have := (hL k q h).w4; omega, fun k z h => ?_⟩
  obtain ⟨q, hq, rfl⟩ := map_some h
  obtain ⟨_, _, _, i1, i2, i3⟩ := zk_of R S W (hL k q hq)
  obtain ⟨_, _, _, _, _, _, e0, el, l9, _, _⟩ := hL k q hq
  unfold zfun
  simp only
  omega
theorem zn_map {L : List Ph} {zf : Ph → Int × Int} {k : Nat} {q : Ph} (h : L[k]? = some q) : zn (L.map zf) k = zf q := zn_at (by rw [List.getElem?_map, h]; rfl)
theorem zw_of {w : World} {s : Int} {b1 b2 n : Nat} {lo hi : List Int} (R : Rg a b c d e f) (S : Sub a b c d e f p1 p2 p3 q1 q2 q3) (W : Bound.Wide w s b1 b2 n lo hi) {L : List Ph} (hL : PhAllS L) {cap : Int} (c0 : 1 ≤ cap) :
    Zw cap (wt L) (zn (L.map (zfun s lo hi p1 p2 p3 q1 q2 q3))) L.length := by
  refine ⟨by omega, fun k hk => ?_, fun k hk => ?_⟩
  · have e := List.getElem?_eq_getElem hk
    rw [wt_at e]
    have := (hL k _ e).w1
    omega
  · have e := List.getElem?_eq_getElem hk
    rw [zn_map e]
    obtain ⟨_, _, _, i1, i2, i3⟩ := zk_of R S W (hL k _ e)
    have := (hL k _ e).el
    unfold zfun
    simp only
    omega
/-- A box within a box has later zones that begin later and end earlier. -/
theorem zfun_sub {w : World} {s : Int} {b1 b2 n : Nat} {lo hi : List Int} {r1 r2 r3 t1 t2 t3 : Int} (R : Rg a b c d e f) (S : Sub a b c d e f p1 p2 p3 q1 q2 q3) (S2 : Sub a b c d e f r1 r2 r3 t1 t2 t3) (S3 : Sub p1 p2 p3 q1 q2 q3 r1 r2 r3 t1 t2 t3) (W : Bound.Wide w s b1 b2 n lo hi) {q : Ph} (h : PhS q) (t : Int) :
    res (zfun s lo hi p1 p2 p3 q1 q2 q3 q) t ≤ res (zfun s lo hi r1 r2 r3 t1 t2 t3 q) t := by
  have k1 := zk_of R S W h
  have k2 := zk_of R S2 W h
  have i1 := (W.mono (m := Geo.far3 r1 r2 r3 t1 t2 t3 q.x q.y q.z) (m' := Geo.far3 p1 p2 p3 q1 q2 q3 q.x q.y q.z) (by have := k2.m0; have := k2.m1; omega) (S3.far _ _ _) k1.m9).2
  have i2 := (W.mono (m := Geo.near3 p1 p2 p3 q1 q2 q3 q.x q.y q.z) (m' := Geo.near3 r1 r2 r3 t1 t2 t3 q.x q.y q.z) k1.m0 (S3.near _ _ _) (by have := k2.m1; have := k2.m9; omega)).1
  unfold res zfun
  simp only
  omega
theorem best_sub {w : World} {s : Int} {b1 b2 n : Nat} {lo hi : List Int} {r1 r2 r3 t1 t2 t3 : Int} (R : Rg a b c d e f) (S : Sub a b c d e f p1 p2 p3 q1 q2 q3) (S2 : Sub a b c d e f r1 r2 r3 t1 t2 t3) (S3 : Sub p1 p2 p3 q1 q2 q3 r1 r2 r3 t1 t2 t3) (W : Bound.Wide w s b1 b2 n lo hi) {L : List Ph} (hL : PhAllS L) (n1 : 1 ≤ L.length) {cap : Int} (c0 : 1 ≤ cap) :
    (best cap (wt L) (zn (L.map (zfun s lo hi p1 p2 p3 q1 q2 q3))) L.length).2 ≤ (best cap (wt L) (zn (L.map (zfun s lo hi r1 r2 r3 t1 t2 t3))) L.length).2 := by
  have B1 := best_is cap (wt L) (zn (L.map (zfun s lo hi p1 p2 p3 q1 q2 q3))) L.length (by omega)
  have B2 := best_is cap (wt L) (zn (L.map (zfun s lo hi r1 r2 r3 t1 t2 t3))) L.length (by omega)
  have Z1 := zw_of R S W hL c0
  refine Int.le_trans (B1.least Z1 (by omega) (best cap (wt L) (zn (L.map (zfun s lo hi r1 r2 r3 t1 t2 t3))) L.length).1) ?_
  rw [B2.is]
  refine ck_le cap (wt L) _ _ _ _ _ Z1.w0 fun k hk => ?_
  have e := List.getElem?_eq_getElem hk
  rw [zn_map e, zn_map e]
  exact zfun_sub R S S2 S3 W (hL k _ e) _
theorem best_bd {w : World} {s : Int} {b1 b2 n : Nat} {lo hi : List Int} (R : Rg a b c d e f) (S : Sub a b c d e f p1 p2 p3 q1 q2 q3) (W : Bound.Wide w s b1 b2 n lo hi) {L : List Ph} (hL : PhAllS L) (n1 : 1 ≤ L.length) (n9 : L.length ≤ 64) {cap : Int} (c0 : 1 ≤ cap) (c9 : cap ≤ 2000) :
    0 ≤ (best cap (wt L) (zn (L.map (zfun s lo hi p1 p2 p3 q1 q2 q3))) L.length).2 ∧ (best cap (wt L) (zn (L.map (zfun s lo hi p1 p2 p3 q1 q2 q3))) L.length).2 ≤ 12800000 ∧ -1125899906842624 ≤ (best cap (wt L) (zn (L.map (zfun s lo hi p1 p2 p3 q1 q2 q3))) L.length).1 ∧ (best cap (wt L) (zn (L.map (zfun s lo hi p1 p2 p3 q1 q2 q3))) L.length).1 ≤ 1125899906842624 := by
  have CS := cs_of R S W hL n1 n9 c0 c9
  have B1 := best_is cap (wt L) (zn (L.map (zfun s lo hi p1 p2 p3 q1 q2 q3))) L.length (by omega)
  have h1 := ck_bd cap (wt L) (zn (L.map (zfun s lo hi p1 p2 p3 q1 q2 q3))) (best cap (wt L) (zn (L.map (zfun s lo hi p1 p2 p3 q1 q2 q3))) L.length).1 (by omega) c9 L.length CS.wts
  rw [← B1.is] at h1
  obtain ⟨j, hj, e⟩ := B1.at_
  have hz := CS.zns (j / 2) (by omega)
  rw [e]
  refine ⟨h1.1, by omega, ?_, ?_⟩ <;> (unfold cd; split <;> omega)
end
end Mis
end Go.Proofs.Ytldgihlhioeipaa
namespace Go.Proofs.Ytldgihlhioeipaa
open Go.RowKit
namespace Mis
/-- The misfit of a list of phases at a box. -/
def mf (s : Int) (lo hi : List Int) (cap : Int) (p1 p2 p3 q1 q2 q3 : Int) (L : List Ph) : Int × Int := best cap (wt L) (zn (L.map (zfun s lo hi p1 p2 p3 q1 q2 q3))) L.length
theorem PbG.rg {w' : World} {B : Nat} {side : Int} {most : Nat} {a1 a2 a3 d1 d2 d3 s : Int} {b1 b2 n : Nat} {lo hi : List Int} {gp cpp : Nat} {L : List Ph} {cp : Int} (h : PbG w' B side most a1 a2 a3 d1 d2 d3 s b1 b2 n lo hi gp cpp L cp) (hs : side ≤ 30) : Rg a1 a2 a3 d1 d2 d3 := by
  obtain ⟨bv, s1, s2, s3, x0, x1, y0, y1, z0, z1, _⟩ := h
  exact ⟨bv, by omega, by omega, by omega, x0, x1, y0, y1, z0, z1⟩
theorem PhAll.s {L : List Ph} (h : PhAll L) : PhAllS L := fun k q hq => (h k q hq).s
section
variable {w : World} {g cc nl : Nat} {L : List Ph} {a b c d e f s : Int} {b1 b2 n : Nat} {cap : Int} {lo hi : List Int}
theorem at_of (R : Rg a b c d e f) (W : Bound.Wide w s b1 b2 n lo hi) (hL : PhAllS L) (n1 : 1 ≤ L.length) (n9 : L.length ≤ 64) (c0 : 1 ≤ cap) (c9 : cap ≤ 2000) (hp : PhR w g L) (hn : nl = L.length) (hc : nl ≤ cc) (c1 c2 : Nat) (x y z : Int) (S : Sub a b c d e f x y z x y z) :
    Calls Try.prog 13 #[.agg #[.int .i64 a, .int .i64 b, .int .i64 c, .int .i64 d, .int .i64 e, .int .i64 f, .int .i64 s, .slice (some ⟨b1, 0, none⟩) n c1, .slice (some ⟨b2, 0, none⟩) n c2, .slice (some ⟨g, 0, none⟩) nl cc, .int .i64 cap], .agg #[.int .i64 x, .int .i64 y, .int .i64 z]] w fun r w' => r = .returned (.tuple #[.int .i64 (mf s lo hi cap x y z x y z L).1, .int .i64 (mf s lo hi cap x y z x y z L).2, .int .i64 0]) ∧ Below w.heap.size w w' := by
  have := at_any (pk_of c1 c2 R hL n1 n9 c0 c9) W hp hn hc x y z (zfun s lo hi x y z x y z) (S.bv R.bv) S.wi (fun k q h w hw => zone_of R S hw (hL k q h)) (cs_of R S W hL n1 n9 c0 c9)
  subst hn
  exact this
theorem bound_of (R : Rg a b c d e f) (W : Bound.Wide w s b1 b2 n lo hi) (hL : PhAllS L) (n1 : 1 ≤ L.length) (n9 : L.length ≤ 64) (c0 : 1 ≤ cap) (c9 : cap ≤ 2000) (hp : PhR w g L) (hn : nl = L.length) (hc : nl ≤ cc) (c1 c2 : Nat) (p1 p2 p3 q1 q2 q3 : Int) (S : Sub a b c d e f p1 p2 p3 q1 q2 q3) :
    Calls Try.prog 50 #[.agg #[.int .i64 a, .int .i64 b, .int .i64 c, .int .i64 d, .int .i64 e, .int .i64 f, .int .i64 s, .slice (some ⟨b1, 0, none⟩) n c1, .slice (some ⟨b2, 0, none⟩) n c2, .slice (some ⟨g, 0, none⟩) nl cc, .int .i64 cap], .agg #[.int .i64 p1, .int .i64 p2, .int .i64 p3, .int .i64 q1, .int .i64 q2, .int .i64 q3]] w fun r w' => r = .returned (.tuple #[.int .i64 (mf s lo hi cap p1 p2 p3 q1 q2 q3 L).2, .int .i64 0]) ∧ Below w.heap.size w w' := by
  have := bound_any (pk_of c1 c2 R hL n1 n9 c0 c9) W hp hn hc p1 p2 p3 q1 q2 q3 (zfun s lo hi p1 p2 p3 q1 q2 q3) (S.bv R.bv) S.wi (fun k q h w hw => zone_of R S hw (hL k q h)) (cs_of R S W hL n1 n9 c0 c9)
  subst hn
  exact this
end
theorem Sub.pt {a b c d e f x y z : Int} (h1 : a ≤ x) (h2 : x ≤ d) (h3 : b ≤ y) (h4 : y ≤ e) (h5 : c ≤ z) (h6 : z ≤ f) : Sub a b c d e f x y z x y z := ⟨h1, h3, h5, by omega, by omega, by omega, h2, h4, h6⟩
end Mis
end Go.Proofs.Ytldgihlhioeipaa
namespace Go.Proofs.Ytldgihlhioeipaa
open Go.RowKit
namespace Mis
section
variable {w : World} {a b c d e f s : Int} {b1 b2 n : Nat} {lo hi : List Int} {x y z : Int}
end
end Mis
end Go.Proofs.Ytldgihlhioeipaa
namespace Go.Proofs.Ytldgihlhioeipaa
namespace Mis
end Mis
end Go.Proofs.Ytldgihlhioeipaa
