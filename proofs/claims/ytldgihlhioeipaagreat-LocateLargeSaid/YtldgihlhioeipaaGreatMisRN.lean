/- Zones, At, Bound of the reader's problems; the mathematics of the laws of misfits. -/
import Derived.Test.YtldgihlhioeipaaGreatMisO
import Derived.Test.YtldgihlhioeipaaGreatMisD
import Derived.ArgAppend
import Derived.Deep.OwnRows
set_option linter.unusedVariables false
set_option linter.unusedSimpArgs false
namespace Go.Proofs.YtldgihlhioeipaaGreat
open Go.RowKit
namespace Mis
def zfun (s : Int) (lo hi : List Int) (p1 p2 p3 q1 q2 q3 : Int) (q : Ph) : Int × Int := (q.E - Bound.HI s hi (Geo.far3 p1 p2 p3 q1 q2 q3 q.x q.y q.z), q.L - Bound.LO s lo (Geo.near3 p1 p2 p3 q1 q2 q3 q.x q.y q.z))
structure PhS (q : Ph) : Prop where
  x0 : -60 ≤ q.x
  x1 : q.x ≤ 60
  y0 : -60 ≤ q.y
  y1 : q.y ≤ 60
  z0 : 0 ≤ q.z
  z1 : q.z ≤ 60
  e0 : 0 ≤ q.E
  el : q.E ≤ q.L
  l9 : q.L ≤ 3298534883328
  w1 : 1 ≤ q.W
  w4 : q.W ≤ 4
theorem PhG.s {q : Ph} (h : PhG q) : PhS q := ⟨h.x0, h.x1, h.y0, h.y1, h.z0, h.z1, h.e0, h.el, by have := h.l9; omega, h.w1, h.w4⟩
theorem PhS.v {q : Ph} (h : PhS q) : Bound.PhV q.x q.y q.z q.E q.L q.W := by
  obtain ⟨x0, x1, y0, y1, z0, z1, e0, el, l9, w1, w4⟩ := h
  exact ⟨⟨by omega, by omega, by omega, by omega, by omega, by omega⟩, e0, el, by omega, w1, by omega⟩
/-- A region as the reader makes it. -/
structure Rg (a b c d e f : Int) : Prop where
  bv : Geo.BV a b c d e f
  s1 : d ≤ a + 30
  s2 : e ≤ b + 30
  s3 : f ≤ c + 30
  x0 : -20 ≤ a
  x1 : a ≤ 20
  y0 : -20 ≤ b
  y1 : b ≤ 20
  z0 : 0 ≤ c
  z1 : c ≤ 20
/-- A box within another. -/
structure Sub (a b c d e f p1 p2 p3 q1 q2 q3 : Int) : Prop where
  l1 : a ≤ p1
  l2 : b ≤ p2
  l3 : c ≤ p3
  m1 : p1 ≤ q1
  m2 : p2 ≤ q2
  m3 : p3 ≤ q3
  h1 : q1 ≤ d
  h2 : q2 ≤ e
  h3 : q3 ≤ f
section
variable {a b c d e f p1 p2 p3 q1 q2 q3 : Int}
theorem Sub.bv (S : Sub a b c d e f p1 p2 p3 q1 q2 q3) (R : Geo.BV a b c d e f) : Geo.BV p1 p2 p3 q1 q2 q3 := by
  obtain ⟨⟨_, _, _, _, _, _⟩, ⟨_, _, _, _, _, _⟩, _, _, _⟩ := R
  obtain ⟨_, _, _, _, _, _, _, _, _⟩ := S
  exact ⟨⟨by omega, by omega, by omega, by omega, by omega, by omega⟩, ⟨by omega, by omega, by omega, by omega, by omega, by omega⟩, by omega, by omega, by omega⟩
theorem Sub.refl (R : Geo.BV a b c d e f) : Sub a b c d e f a b c d e f := ⟨by omega, by omega, by omega, R.x, R.y, R.z, by omega, by omega, by omega⟩
theorem Sub.wi (S : Sub a b c d e f p1 p2 p3 q1 q2 q3) : Geo.wiB p1 p2 p3 q1 q2 q3 a b c d e f = true := by
  obtain ⟨_, _, _, _, _, _, _, _, _⟩ := S
  unfold Geo.wiB
  simp
  omega
theorem near1 {a d p q x : Int} (h1 : a ≤ p) (h2 : q ≤ d) : max (a - x) (max (x - d) 0) * max (a - x) (max (x - d) 0) ≤ max (p - x) (max (x - q) 0) * max (p - x) (max (x - q) 0) :=
  Int.mul_le_mul (by omega) (by omega) (by omega) (by omega)
theorem far1 {a d p q x : Int} (h1 : a ≤ p) (hm : p ≤ q) (h2 : q ≤ d) : max (q - x) (x - p) * max (q - x) (x - p) ≤ max (d - x) (x - a) * max (d - x) (x - a) :=
  Int.mul_le_mul (by omega) (by omega) (by omega) (by omega)
theorem Sub.near (S : Sub a b c d e f p1 p2 p3 q1 q2 q3) (x y z : Int) : Geo.near3 a b c d e f x y z ≤ Geo.near3 p1 p2 p3 q1 q2 q3 x y z := by
  unfold Geo.near3
  have := near1 (x := x) S.l1 S.h1
  have := near1 (x := y) S.l2 S.h2
  have := near1 (x := z) S.l3 S.h3
  omega
theorem Sub.far (S : Sub a b c d e f p1 p2 p3 q1 q2 q3) (x y z : Int) : Geo.far3 p1 p2 p3 q1 q2 q3 x y z ≤ Geo.far3 a b c d e f x y z := by
  unfold Geo.far3
  have := far1 (x := x) S.l1 S.m1 S.h1
  have := far1 (x := y) S.l2 S.m2 S.h2
  have := far1 (x := z) S.l3 S.m3 S.h3
  omega
theorem Rg.far (R : Rg a b c d e f) {q : Ph} (h : PhS q) : Geo.far3 a b c d e f q.x q.y q.z ≤ 160000 := by
  obtain ⟨bv, s1, s2, s3, x0, x1, y0, y1, z0, z1⟩ := R
  exact Bound.far_small bv (by omega) (by omega) (by omega) (by omega) (by omega) (by omega) (by omega) z0 (by omega) h.x0 h.x1 h.y0 h.y1 h.z0 h.z1
/-- What is known of the zones. -/
structure Zk (s : Int) (lo hi : List Int) (p1 p2 p3 q1 q2 q3 : Int) (q : Ph) : Prop where
  m0 : 0 ≤ Geo.near3 p1 p2 p3 q1 q2 q3 q.x q.y q.z
  m1 : Geo.near3 p1 p2 p3 q1 q2 q3 q.x q.y q.z ≤ Geo.far3 p1 p2 p3 q1 q2 q3 q.x q.y q.z
  m9 : Geo.far3 p1 p2 p3 q1 q2 q3 q.x q.y q.z ≤ 160000
  lo0 : 0 ≤ Bound.LO s lo (Geo.near3 p1 p2 p3 q1 q2 q3 q.x q.y q.z)
  lh : Bound.LO s lo (Geo.near3 p1 p2 p3 q1 q2 q3 q.x q.y q.z) ≤ Bound.HI s hi (Geo.far3 p1 p2 p3 q1 q2 q3 q.x q.y q.z)
  h9 : Bound.HI s hi (Geo.far3 p1 p2 p3 q1 q2 q3 q.x q.y q.z) ≤ 1099511627776
theorem zk_of {w : World} {s : Int} {b1 b2 n : Nat} {lo hi : List Int} (R : Rg a b c d e f) (S : Sub a b c d e f p1 p2 p3 q1 q2 q3) (W : Bound.Wide w s b1 b2 n lo hi) {q : Ph} (h : PhS q) : Zk s lo hi p1 p2 p3 q1 q2 q3 q := by
  obtain ⟨m0, m1, _⟩ := Bound.near_far (S.bv R.bv) h.v.pv
  have m9 : Geo.far3 p1 p2 p3 q1 q2 q3 q.x q.y q.z ≤ 160000 := Int.le_trans (S.far _ _ _) (R.far h)
  have i1 := W.bd m0 (by omega)
  have i2 := W.bd (m := Geo.far3 p1 p2 p3 q1 q2 q3 q.x q.y q.z) (by omega) m9
  have i3 := W.mono m0 m1 m9
  exact ⟨m0, m1, m9, i1.1, by omega, i2.2.2⟩
theorem zone_of {w : World} {s : Int} {b1 b2 n c1 c2 : Nat} {lo hi : List Int} (R : Rg a b c d e f) (S : Sub a b c d e f p1 p2 p3 q1 q2 q3) (W : Bound.Wide w s b1 b2 n lo hi) {q : Ph} (h : PhS q) :
    Calls Tryz.prog 75 #[.agg #[.int .i64 s, .slice (some ⟨b1, 0, none⟩) n c1, .slice (some ⟨b2, 0, none⟩) n c2], .agg #[.int .i64 p1, .int .i64 p2, .int .i64 p3, .int .i64 q1, .int .i64 q2, .int .i64 q3], .agg #[.int .i64 q.x, .int .i64 q.y, .int .i64 q.z, .int .i64 q.E, .int .i64 q.L, .int .i64 q.W]] w fun r w' => r = .returned (.tuple #[.agg #[.int .i64 (zfun s lo hi p1 p2 p3 q1 q2 q3 q).1, .int .i64 (zfun s lo hi p1 p2 p3 q1 q2 q3 q).2], .int .i64 0]) ∧ Below w.heap.size w w' :=
  Bound.zone_bx s b1 b2 n c1 c2 lo hi p1 p2 p3 q1 q2 q3 q.x q.y q.z q.E q.L q.W w W (S.bv R.bv) h.v (Int.le_trans (S.far _ _ _) (R.far h))
/-- Phases that a problem may have. -/
def PhAllS (L : List Ph) : Prop := ∀ (k : Nat) (q : Ph), L[k]? = some q → PhS q
theorem pk_of {s : Int} {b1 b2 n : Nat} (c1 c2 : Nat) {lo hi : List Int} (R : Rg a b c d e f) {L : List Ph} (hL : PhAllS L) (n1 : 1 ≤ L.length) (n9 : L.length ≤ 64) {cap : Int} (c0 : 1 ≤ cap) (c9 : cap ≤ 2000) :
    Pk (fun w => Bound.Wide w s b1 b2 n lo hi) a b c d e f s b1 b2 n c1 c2 cap L :=
  ⟨fun w w' h hb => h.below hb, R.bv, fun w h => Trav.validate_yes s b1 b2 n c1 c2 lo hi w h.tv, n1, n9, c0, c9, fun k q h => (hL k q h).v,
    fun k q h w hw => (Bound.box_int s b1 b2 n c1 c2 lo hi a b c d e f q.x q.y q.z w hw R.bv (hL k q h).v.pv (R.far (hL k q h))).mono fun e w' ⟨he, hb⟩ => ⟨⟨_, _, he⟩, hb⟩⟩
theorem map_some {L : List Ph} {zf : Ph → Int × Int} {k : Nat} {z : Int × Int} (h : (L.map zf)[k]? = some z) : ∃ q, L[k]? = some q ∧ z = zf q := by
  rw [List.getElem?_map] at h
  cases hh : L[k]? with
  | none => rw [hh] at h; cases h
  | some q => rw [hh] at h; exact ⟨q, rfl, by simpa using h.symm⟩
theorem cs_of {w : World} {s : Int} {b1 b2 n : Nat} {lo hi : List Int} (R : Rg a b c d e f) (S : Sub a b c d e f p1 p2 p3 q1 q2 q3) (W : Bound.Wide w s b1 b2 n lo hi) {L : List Ph} (hL : PhAllS L) (n1 : 1 ≤ L.length) (n9 : L.length ≤ 64) {cap : Int} (c0 : 1 ≤ cap) (c9 : cap ≤ 2000) :
    Cs cap L (L.map (zfun s lo hi p1 p2 p3 q1 q2 q3)) := by
  refine ⟨c0, c9, n1, n9, by simp, fun k q h => by have := hL k q h; have := this.w1; have := (hL k q h).w4; omega, fun k z h => ?_⟩
  obtain ⟨q, hq, rfl⟩ := map_some h
  obtain ⟨_, _, _, i1, i2, i3⟩ := zk_of R S W (hL k q hq)
  obtain ⟨_, _, _, _, _, _, e0, el, l9, _, _⟩ := hL k q hq
  unfold zfun
  simp only
  omega
theorem zn_map {L : List Ph} {zf : Ph → Int × Int} {k : Nat} {q : Ph} (h : L[k]? = some q) : zn (L.map zf) k = zf q := zn_at (by rw [List.getElem?_map, h]; rfl)
theorem zw_of {w : World} {s : Int} {b1 b2 n : Nat} {lo hi : List Int} (R : Rg a b c d e f) (S : Sub a b c d e f p1 p2 p3 q1 q2 q3) (W : Bound.Wide w s b1 b2 n lo hi) {L : List Ph} (hL : PhAllS L) {cap : Int} (c0 : 1 ≤ cap) :
    Zw cap (wt L) (zn (L.map (zfun s lo hi p1 p2 p3 q1 q2 q3))) L.length := by
  refine ⟨by omega, fun k hk => ?_, fun k hk => ?_⟩
  · have e := List.getElem?_eq_getElem hk
    rw [wt_at e]
    have := (hL k _ e).w1
    omega
  · have e := List.getElem?_eq_getElem hk
    rw [zn_map e]
    obtain ⟨_, _, _, i1, i2, i3⟩ := zk_of R S W (hL k _ e)
    have := (hL k _ e).el
    unfold zfun
    simp only
    omega
/-- A box within a box has later zones that begin later and end earlier. -/
theorem zfun_sub {w : World} {s : Int} {b1 b2 n : Nat} {lo hi : List Int} {r1 r2 r3 t1 t2 t3 : Int} (R : Rg a b c d e f) (S : Sub a b c d e f p1 p2 p3 q1 q2 q3) (S2 : Sub a b c d e f r1 r2 r3 t1 t2 t3) (S3 : Sub p1 p2 p3 q1 q2 q3 r1 r2 r3 t1 t2 t3) (W : Bound.Wide w s b1 b2 n lo hi) {q : Ph} (h : PhS q) (t : Int) :
    res (zfun s lo hi p1 p2 p3 q1 q2 q3 q) t ≤ res (zfun s lo hi r1 r2 r3 t1 t2 t3 q) t := by
  have k1 := zk_of R S W h
  have k2 := zk_of R S2 W h
  have i1 := (W.mono (m := Geo.far3 r1 r2 r3 t1 t2 t3 q.x q.y q.z) (m' := Geo.far3 p1 p2 p3 q1 q2 q3 q.x q.y q.z) (by have := k2.m0; have := k2.m1; omega) (S3.far _ _ _) k1.m9).2
  have i2 := (W.mono (m := Geo.near3 p1 p2 p3 q1 q2 q3 q.x q.y q.z) (m' := Geo.near3 r1 r2 r3 t1 t2 t3 q.x q.y q.z) k1.m0 (S3.near _ _ _) (by have := k2.m1; have := k2.m9; omega)).1
  unfold res zfun
  simp only
  omega
theorem best_sub {w : World} {s : Int} {b1 b2 n : Nat} {lo hi : List Int} {r1 r2 r3 t1 t2 t3 : Int} (R : Rg a b c d e f) (S : Sub a b c d e f p1 p2 p3 q1 q2 q3) (S2 : Sub a b c d e f r1 r2 r3 t1 t2 t3) (S3 : Sub p1 p2 p3 q1 q2 q3 r1 r2 r3 t1 t2 t3) (W : Bound.Wide w s b1 b2 n lo hi) {L : List Ph} (hL : PhAllS L) (n1 : 1 ≤ L.length) {cap : Int} (c0 : 1 ≤ cap) :
    (best cap (wt L) (zn (L.map (zfun s lo hi p1 p2 p3 q1 q2 q3))) L.length).2 ≤ (best cap (wt L) (zn (L.map (zfun s lo hi r1 r2 r3 t1 t2 t3))) L.length).2 := by
  have B1 := best_is cap (wt L) (zn (L.map (zfun s lo hi p1 p2 p3 q1 q2 q3))) L.length (by omega)
  have B2 := best_is cap (wt L) (zn (L.map (zfun s lo hi r1 r2 r3 t1 t2 t3))) L.length (by omega)
  have Z1 := zw_of R S W hL c0
  refine Int.le_trans (B1.least Z1 (by omega) (best cap (wt L) (zn (L.map (zfun s lo hi r1 r2 r3 t1 t2 t3))) L.length).1) ?_
  rw [B2.is]
  refine ck_le cap (wt L) _ _ _ _ _ Z1.w0 fun k hk => ?_
  have e := List.getElem?_eq_getElem hk
  rw [zn_map e, zn_map e]
  exact zfun_sub R S S2 S3 W (hL k _ e) _
theorem best_bd {w : World} {s : Int} {b1 b2 n : Nat} {lo hi : List Int} (R : Rg a b c d e f) (S : Sub a b c d e f p1 p2 p3 q1 q2 q3) (W : Bound.Wide w s b1 b2 n lo hi) {L : List Ph} (hL : PhAllS L) (n1 : 1 ≤ L.length) (n9 : L.length ≤ 64) {cap : Int} (c0 : 1 ≤ cap) (c9 : cap ≤ 2000) :
    0 ≤ (best cap (wt L) (zn (L.map (zfun s lo hi p1 p2 p3 q1 q2 q3))) L.length).2 ∧ (best cap (wt L) (zn (L.map (zfun s lo hi p1 p2 p3 q1 q2 q3))) L.length).2 ≤ 12800000 ∧ -1125899906842624 ≤ (best cap (wt L) (zn (L.map (zfun s lo hi p1 p2 p3 q1 q2 q3))) L.length).1 ∧ (best cap (wt L) (zn (L.map (zfun s lo hi p1 p2 p3 q1 q2 q3))) L.length).1 ≤ 1125899906842624 := by
  have CS := cs_of R S W hL n1 n9 c0 c9
  have B1 := best_is cap (wt L) (zn (L.map (zfun s lo hi p1 p2 p3 q1 q2 q3))) L.length (by omega)
  have h1 := ck_bd cap (wt L) (zn (L.map (zfun s lo hi p1 p2 p3 q1 q2 q3))) (best cap (wt L) (zn (L.map (zfun s lo hi p1 p2 p3 q1 q2 q3))) L.length).1 (by omega) c9 L.length CS.wts
  rw [← B1.is] at h1
  obtain ⟨j, hj, e⟩ := B1.at_
  have hz := CS.zns (j / 2) (by omega)
  rw [e]
  refine ⟨h1.1, by omega, ?_, ?_⟩ <;> (unfold cd; split <;> omega)
end
end Mis
end Go.Proofs.YtldgihlhioeipaaGreat
namespace Go.Proofs.YtldgihlhioeipaaGreat
open Go.RowKit
namespace Mis
/-- The misfit of a list of phases at a box. -/
def mf (s : Int) (lo hi : List Int) (cap : Int) (p1 p2 p3 q1 q2 q3 : Int) (L : List Ph) : Int × Int := best cap (wt L) (zn (L.map (zfun s lo hi p1 p2 p3 q1 q2 q3))) L.length
theorem PbG.rg {w' : World} {B : Nat} {side : Int} {most : Nat} {a1 a2 a3 d1 d2 d3 s : Int} {b1 b2 n : Nat} {lo hi : List Int} {gp cpp : Nat} {L : List Ph} {cp : Int} (h : PbG w' B side most a1 a2 a3 d1 d2 d3 s b1 b2 n lo hi gp cpp L cp) (hs : side ≤ 30) : Rg a1 a2 a3 d1 d2 d3 := by
  obtain ⟨bv, s1, s2, s3, x0, x1, y0, y1, z0, z1, _⟩ := h
  exact ⟨bv, by omega, by omega, by omega, x0, x1, y0, y1, z0, z1⟩
theorem PhAll.s {L : List Ph} (h : PhAll L) : PhAllS L := fun k q hq => (h k q hq).s
section
variable {w : World} {g cc nl : Nat} {L : List Ph} {a b c d e f s : Int} {b1 b2 n : Nat} {cap : Int} {lo hi : List Int}
theorem at_of (R : Rg a b c d e f) (W : Bound.Wide w s b1 b2 n lo hi) (hL : PhAllS L) (n1 : 1 ≤ L.length) (n9 : L.length ≤ 64) (c0 : 1 ≤ cap) (c9 : cap ≤ 2000) (hp : PhR w g L) (hn : nl = L.length) (hc : nl ≤ cc) (c1 c2 : Nat) (x y z : Int) (S : Sub a b c d e f x y z x y z) :
    Calls Tryz.prog 13 #[.agg #[.int .i64 a, .int .i64 b, .int .i64 c, .int .i64 d, .int .i64 e, .int .i64 f, .int .i64 s, .slice (some ⟨b1, 0, none⟩) n c1, .slice (some ⟨b2, 0, none⟩) n c2, .slice (some ⟨g, 0, none⟩) nl cc, .int .i64 cap], .agg #[.int .i64 x, .int .i64 y, .int .i64 z]] w fun r w' => r = .returned (.tuple #[.int .i64 (mf s lo hi cap x y z x y z L).1, .int .i64 (mf s lo hi cap x y z x y z L).2, .int .i64 0]) ∧ Below w.heap.size w w' := by
  have := at_any (pk_of c1 c2 R hL n1 n9 c0 c9) W hp hn hc x y z (zfun s lo hi x y z x y z) (S.bv R.bv) S.wi (fun k q h w hw => zone_of R S hw (hL k q h)) (cs_of R S W hL n1 n9 c0 c9)
  subst hn
  exact this
theorem bound_of (R : Rg a b c d e f) (W : Bound.Wide w s b1 b2 n lo hi) (hL : PhAllS L) (n1 : 1 ≤ L.length) (n9 : L.length ≤ 64) (c0 : 1 ≤ cap) (c9 : cap ≤ 2000) (hp : PhR w g L) (hn : nl = L.length) (hc : nl ≤ cc) (c1 c2 : Nat) (p1 p2 p3 q1 q2 q3 : Int) (S : Sub a b c d e f p1 p2 p3 q1 q2 q3) :
    Calls Tryz.prog 57 #[.agg #[.int .i64 a, .int .i64 b, .int .i64 c, .int .i64 d, .int .i64 e, .int .i64 f, .int .i64 s, .slice (some ⟨b1, 0, none⟩) n c1, .slice (some ⟨b2, 0, none⟩) n c2, .slice (some ⟨g, 0, none⟩) nl cc, .int .i64 cap], .agg #[.int .i64 p1, .int .i64 p2, .int .i64 p3, .int .i64 q1, .int .i64 q2, .int .i64 q3]] w fun r w' => r = .returned (.tuple #[.int .i64 (mf s lo hi cap p1 p2 p3 q1 q2 q3 L).2, .int .i64 0]) ∧ Below w.heap.size w w' := by
  have := bound_any (pk_of c1 c2 R hL n1 n9 c0 c9) W hp hn hc p1 p2 p3 q1 q2 q3 (zfun s lo hi p1 p2 p3 q1 q2 q3) (S.bv R.bv) S.wi (fun k q h w hw => zone_of R S hw (hL k q h)) (cs_of R S W hL n1 n9 c0 c9)
  subst hn
  exact this
end
theorem Sub.pt {a b c d e f x y z : Int} (h1 : a ≤ x) (h2 : x ≤ d) (h3 : b ≤ y) (h4 : y ≤ e) (h5 : c ≤ z) (h6 : z ≤ f) : Sub a b c d e f x y z x y z := ⟨h1, h3, h5, by omega, by omega, by omega, h2, h4, h6⟩
/-- The first term of a cost. -/
theorem ck_front (cap : Int) (w : Nat → Int) (z : Nat → Int × Int) (t : Int) : ∀ n, ck cap w z t (n + 1) = w 0 * min (res (z 0) t) cap + ck cap (fun k => w (k + 1)) (fun k => z (k + 1)) t n
  | 0 => by simp [ck]
  | n + 1 => by
    have ih := ck_front cap w z t n
    rw [ck, ih, ck]
    omega
theorem ck_rev (cap : Int) (t t' : Int) : ∀ (n : Nat) (w w' : Nat → Int) (z z' : Nat → Int × Int), (∀ k, k < n → w' k = w (n - 1 - k) ∧ res (z' k) t' = res (z (n - 1 - k)) t) → ck cap w' z' t' n = ck cap w z t n
  | 0, _, _, _, _, _ => rfl
  | n + 1, w, w', z, z', h => by
    have ih := ck_rev cap t t' n (fun k => w (k + 1)) w' (fun k => z (k + 1)) z' (fun k hk => by
      have := h k (by omega)
      rw [show n + 1 - 1 - k = n - 1 - k + 1 by omega] at this
      exact this)
    have h1 := h n (by omega)
    rw [show n + 1 - 1 - n = 0 by omega] at h1
    have f := ck_front cap w z t n
    rw [f]
    show ck cap w' z' t' n + w' n * min (res (z' n) t') cap = _
    rw [ih, h1.1, h1.2]
    omega
theorem res_sh (z : Int × Int) (t D : Int) : res (z.1 + D, z.2 + D) (t + D) = res z t := by unfold res; simp only; omega
theorem shift_best {cap : Int} {w w' : Nat → Int} {z z' : Nat → Int × Int} {n : Nat} {D : Int} (hn : 0 < n) (hw : ∀ k, k < n → w' k = w (n - 1 - k)) (hz : ∀ k, k < n → z' k = ((z (n - 1 - k)).1 + D, (z (n - 1 - k)).2 + D)) : best cap w' z' n = ((best cap w z n).1 + D, (best cap w z n).2) := by
  have B := best_is cap w z n hn
  have C : ∀ t, ck cap w' z' (t + D) n = ck cap w z t n := fun t => ck_rev cap t (t + D) n w w' z z' fun k hk => ⟨hw k hk, by rw [hz k hk, res_sh]⟩
  have X : ∀ j, j < 2 * n → cd z' j = cd z (2 * (n - 1 - j / 2) + j % 2) + D := fun j hj => by
    unfold cd
    rw [show (2 * (n - 1 - j / 2) + j % 2) % 2 = j % 2 by omega, show (2 * (n - 1 - j / 2) + j % 2) / 2 = n - 1 - j / 2 by omega, hz (j / 2) (by omega)]
    split <;> rfl
  refine IsBest.eq ⟨?_, ?_, ?_⟩
  · obtain ⟨j, hj, e⟩ := B.at_
    refine ⟨2 * (n - 1 - j / 2) + j % 2, by omega, ?_⟩
    rw [X _ (by omega), show 2 * (n - 1 - (2 * (n - 1 - j / 2) + j % 2) / 2) + (2 * (n - 1 - j / 2) + j % 2) % 2 = j by omega, ← e]
  · rw [C]; exact B.is
  · intro j hj
    have := B.ends (2 * (n - 1 - j / 2) + j % 2) (by omega)
    rw [X j hj, C]
    refine ⟨this.1, fun h => ?_⟩
    have := this.2 h
    omega
/-- A later phase. -/
def sh (D : Int) (q : Ph) : Ph := ⟨q.x, q.y, q.z, q.E + D, q.L + D, q.W⟩
theorem mf_shift (s : Int) (lo hi : List Int) (cap : Int) (p1 p2 p3 q1 q2 q3 : Int) (L : List Ph) (D : Int) (h1 : 1 ≤ L.length) : mf s lo hi cap p1 p2 p3 q1 q2 q3 ((L.map (sh D)).reverse) = ((mf s lo hi cap p1 p2 p3 q1 q2 q3 L).1 + D, (mf s lo hi cap p1 p2 p3 q1 q2 q3 L).2) := by
  unfold mf
  rw [show ((L.map (sh D)).reverse).length = L.length by simp]
  have G : ∀ k, k < L.length → ((L.map (sh D)).reverse)[k]? = some (sh D (L[L.length - 1 - k]'(by omega))) := fun k hk => by
    rw [List.getElem?_reverse (by simpa using hk)]
    simp only [List.length_map]
    rw [List.getElem?_map, List.getElem?_eq_getElem (by omega)]
    rfl
  refine shift_best (by omega) (fun k hk => ?_) (fun k hk => ?_)
  · rw [wt_at (G k hk), wt_at (List.getElem?_eq_getElem (by omega))]; rfl
  · rw [zn_map (G k hk), zn_map (List.getElem?_eq_getElem (show L.length - 1 - k < L.length by omega))]
    unfold zfun sh
    simp only
    refine Prod.ext ?_ ?_ <;> simp only <;> omega
theorem sh_all {L : List Ph} {D : Int} (h : PhAll L) (d0 : 0 ≤ D) (d9 : D ≤ 1099511627776) : PhAllS ((L.map (sh D)).reverse) := by
  intro k q hq
  have hk : k < L.length := by
    have := (List.getElem?_eq_some_iff.1 hq).1
    simpa using this
  rw [List.getElem?_reverse (by simpa using hk)] at hq
  simp only [List.length_map] at hq
  rw [List.getElem?_map, List.getElem?_eq_getElem (by omega)] at hq
  obtain rfl : sh D (L[L.length - 1 - k]'(by omega)) = q := by simpa using hq
  obtain ⟨x0, x1, y0, y1, z0, z1, e0, el, l9, w1, w4⟩ := h _ _ (List.getElem?_eq_getElem (show L.length - 1 - k < L.length by omega))
  exact ⟨x0, x1, y0, y1, z0, z1, by show 0 ≤ _ + D; omega, by show _ + D ≤ _ + D; omega, by show _ + D ≤ _; omega, w1, w4⟩
theorem sh_drop (L : List Ph) (D : Int) (j : Nat) (h : j < L.length) : ((L.drop j).map (sh D)).reverse = ((L.drop (j + 1)).map (sh D)).reverse ++ [sh D L[j]] := by
  rw [List.drop_eq_getElem_cons h, List.map_cons, List.reverse_cons]
end Mis
end Go.Proofs.YtldgihlhioeipaaGreat
namespace Go.Proofs.YtldgihlhioeipaaGreat
open Go.RowKit
namespace Mis
theorem wp_grows {P : Program} {w : World} {o : Oper} {a : Act} {K : Act → World → Prop} {Q : Exit → Act → World → Prop} (s x : Operand) (t : TypeId)
    (ho : o.op = .call { callee := .builtin .append, args := #[s, x], argTypes := #[t, t] })
    (e : TypeId) (i : TypeInfo) (z : Value) (size bytes : Nat) (ht : P.underlying t = some (.slice e)) (hi : P.info? e = some i) (hz : i.zero = some z)
    (hsize : i.size = size) (hby : i.bytes = bytes) (hzs : z.cells.size = size) (hsz : 0 < size)
    (b : Addr) (n cap : Nat) (olds : List Value) (hs : a.eval s = .slice (some b) n cap) (hlo : olds.length = n * size) (holds : ∀ j u, olds[j]? = some u → w.cell? (b.add j) = some u)
    (ad : Addr) (m c : Nat) (news : List Value) (hx : a.eval x = .slice (some ad) m c) (hl : news.length = m * size) (hnews : ∀ j u, news[j]? = some u → w.cell? (ad.add j) = some u)
    (hg : cap < n + m) (h63 : n + m ≤ maxLen) (hbytes : (n + m) * bytes ≤ 140737488355328)
    (h : ∀ v' w', w'.ownsRow w.heap.size e size v' (n + m) (olds ++ news) → w.grownBy w' none → K (a.put o.dst v') w') : o.wp P a w K Q := by
  obtain ⟨v', w', hr, h2, h3⟩ := run_append_arg_grows (P := P) w t o.type e i z size bytes ht hi hz hsize hby hzs hsz b n cap olds hlo holds ad m c news hl hnews hg h63 hbytes
  unfold Oper.wp execOp
  simp only [ho, resolve, invoke, builtin, Sem.run_bind, Sem.run_pure, Result.andThen_ok, List.map_toArray, List.map_cons, List.map_nil, hs, hx, hr]
  exact h v' w' h2 h3
theorem phR_cells {w : World} {g : Nat} {l : List Ph} (h : PhR w g l) (j : Nat) (u : Value) (hj : (cellsP l)[j]? = some u) : w.cell? ((⟨g, 0, none⟩ : Addr).add j) = some u := by
  rw [Addr.add_lit, Nat.zero_add]
  have hlt := (List.getElem?_eq_some_iff.1 hj).1
  rw [cellsP_length] at hlt
  obtain ⟨q, e⟩ : ∃ q, l[j / 6]? = some q := ⟨_, List.getElem?_eq_getElem (show j / 6 < l.length by omega)⟩
  obtain ⟨a0, a1, a2, a3, a4, a5⟩ := cellsP_get l _ _ e
  obtain ⟨b0, b1, b2, b3, b4, b5⟩ := h.2 _ _ e
  have hc : j = j / 6 * 6 ∨ j = j / 6 * 6 + 1 ∨ j = j / 6 * 6 + 2 ∨ j = j / 6 * 6 + 3 ∨ j = j / 6 * 6 + 4 ∨ j = j / 6 * 6 + 5 := by omega
  generalize j / 6 = k at *
  rcases hc with rfl | rfl | rfl | rfl | rfl | rfl
  · rw [a0] at hj; rw [← Option.some.inj hj]; exact b0
  · rw [a1] at hj; rw [← Option.some.inj hj]; exact b1
  · rw [a2] at hj; rw [← Option.some.inj hj]; exact b2
  · rw [a3] at hj; rw [← Option.some.inj hj]; exact b3
  · rw [a4] at hj; rw [← Option.some.inj hj]; exact b4
  · rw [a5] at hj; rw [← Option.some.inj hj]; exact b5
theorem snoc_s {L : List Ph} (h : PhAllS L) {q : Ph} (hq : PhS q) : PhAllS (L ++ [q]) := by
  intro k p hp
  by_cases hk : k < L.length
  · rw [List.getElem?_append_left hk] at hp; exact h k p hp
  · rw [List.getElem?_append_right (by omega)] at hp
    have e : k - L.length = 0 := by
      rcases hh : k - L.length with _ | j
      · rfl
      · rw [hh] at hp; simp at hp
    rw [e] at hp
    simp at hp
    subst hp; exact hq
section
variable {w : World} {a b c d e f s : Int} {b1 b2 n : Nat} {lo hi : List Int} {x y z : Int}
theorem ck_snoc (cap : Int) (zf : Ph → Int × Int) (L : List Ph) (q : Ph) (t : Int) : ck cap (wt (L ++ [q])) (zn ((L ++ [q]).map zf)) t (L.length + 1) = ck cap (wt L) (zn (L.map zf)) t L.length + q.W * min (res (zf q) t) cap := by
  have e1 : (L ++ [q])[L.length]? = some q := by simp
  rw [ck, wt_at e1, zn_map e1, ck_congr cap (wt (L ++ [q])) (wt L) (zn ((L ++ [q]).map zf)) (zn (L.map zf)) t L.length fun k hk => ?_]
  have e2 := List.getElem?_eq_getElem hk
  have e3 : (L ++ [q])[k]? = some L[k] := by rw [List.getElem?_append_left hk]; exact e2
  rw [wt_at e2, wt_at e3, zn_map e2, zn_map e3]
  exact ⟨rfl, rfl⟩
theorem mf_more (R : Rg a b c d e f) (S : Sub a b c d e f x y z x y z) (W : Bound.Wide w s b1 b2 n lo hi) {L : List Ph} (hL : PhAllS L) (n1 : 1 ≤ L.length) {cap : Int} (c0 : 1 ≤ cap) {q : Ph} (hq : PhS q) :
    (mf s lo hi cap x y z x y z L).2 ≤ (mf s lo hi cap x y z x y z (L ++ [q])).2 ∧ (mf s lo hi cap x y z x y z (L ++ [q])).2 ≤ (mf s lo hi cap x y z x y z L).2 + q.W * cap := by
  unfold mf
  have B1 := best_is cap (wt L) (zn (L.map (zfun s lo hi x y z x y z))) L.length (by omega)
  have B2 := best_is cap (wt (L ++ [q])) (zn ((L ++ [q]).map (zfun s lo hi x y z x y z))) (L ++ [q]).length (by simp)
  have Z1 := zw_of R S W hL c0
  have Z2 := zw_of R S W (snoc_s hL hq) c0
  have w0 := hq.w1
  rw [show (L ++ [q]).length = L.length + 1 by simp] at B2 Z2 ⊢
  have r0 : ∀ t, 0 ≤ q.W * min (res (zfun s lo hi x y z x y z q) t) cap := fun t => Int.mul_nonneg (by omega) (by have := res0 (zfun s lo hi x y z x y z q) t; omega)
  have r9 : ∀ t, q.W * min (res (zfun s lo hi x y z x y z q) t) cap ≤ q.W * cap := fun t => Int.mul_le_mul_of_nonneg_left (by omega) (by omega)
  constructor
  · have i1 := B1.least Z1 (by omega) (best cap (wt (L ++ [q])) (zn ((L ++ [q]).map (zfun s lo hi x y z x y z))) (L.length + 1)).1
    have i2 := B2.is
    rw [ck_snoc] at i2
    have := r0 (best cap (wt (L ++ [q])) (zn ((L ++ [q]).map (zfun s lo hi x y z x y z))) (L.length + 1)).1
    omega
  · have i1 := B2.least Z2 (by omega) (best cap (wt L) (zn (L.map (zfun s lo hi x y z x y z))) L.length).1
    rw [ck_snoc] at i1
    have i2 := B1.is
    have := r9 (best cap (wt L) (zn (L.map (zfun s lo hi x y z x y z))) L.length).1
    omega
theorem mf_cap (R : Rg a b c d e f) (S : Sub a b c d e f x y z x y z) (W : Bound.Wide w s b1 b2 n lo hi) {L : List Ph} (hL : PhAllS L) (n1 : 1 ≤ L.length) {cap cap' : Int} (c0 : 1 ≤ cap) (hc : cap ≤ cap') :
    (mf s lo hi cap x y z x y z L).2 ≤ (mf s lo hi cap' x y z x y z L).2 := by
  unfold mf
  have B1 := best_is cap (wt L) (zn (L.map (zfun s lo hi x y z x y z))) L.length (by omega)
  have B2 := best_is cap' (wt L) (zn (L.map (zfun s lo hi x y z x y z))) L.length (by omega)
  have Z1 := zw_of R S W hL c0
  refine Int.le_trans (B1.least Z1 (by omega) (best cap' (wt L) (zn (L.map (zfun s lo hi x y z x y z))) L.length).1) ?_
  rw [B2.is]
  exact ck_cap cap cap' (wt L) _ _ hc _ Z1.w0
end
end Mis
end Go.Proofs.YtldgihlhioeipaaGreat
namespace Go.Proofs.YtldgihlhioeipaaGreat
namespace Mis
def frN (z : Nat → Int × Int) : Nat → Int
  | 0 => -1152921504606846976
  | k + 1 => max (frN z k) (z k).1
def toN (z : Nat → Int × Int) : Nat → Int
  | 0 => 1152921504606846976
  | k + 1 => min (toN z k) (z k).2
theorem frN_ge (z : Nat → Int × Int) : ∀ n, -1152921504606846976 ≤ frN z n ∧ ∀ k, k < n → (z k).1 ≤ frN z n
  | 0 => ⟨by unfold frN; omega, fun k hk => absurd hk (by omega)⟩
  | n + 1 => by
    obtain ⟨h1, h2⟩ := frN_ge z n
    unfold frN
    refine ⟨by omega, fun k hk => ?_⟩
    by_cases e : k = n
    · subst e; omega
    · have := h2 k (by omega); omega
theorem toN_le (z : Nat → Int × Int) : ∀ n, toN z n ≤ 1152921504606846976 ∧ ∀ k, k < n → toN z n ≤ (z k).2
  | 0 => ⟨by unfold toN; omega, fun k hk => absurd hk (by omega)⟩
  | n + 1 => by
    obtain ⟨h1, h2⟩ := toN_le z n
    unfold toN
    refine ⟨by omega, fun k hk => ?_⟩
    by_cases e : k = n
    · subst e; omega
    · have := h2 k (by omega); omega
theorem frN_le (z : Nat → Int × Int) (t : Int) (t0 : -1152921504606846976 ≤ t) : ∀ n, (∀ k, k < n → (z k).1 ≤ t) → frN z n ≤ t
  | 0, _ => by unfold frN; omega
  | n + 1, h => by
    have := frN_le z t t0 n (fun k hk => h k (by omega))
    have := h n (by omega)
    unfold frN; omega
theorem toN_ge (z : Nat → Int × Int) (t : Int) (t0 : t ≤ 1152921504606846976) : ∀ n, (∀ k, k < n → t ≤ (z k).2) → t ≤ toN z n
  | 0, _ => by unfold toN; omega
  | n + 1, h => by
    have := toN_ge z t t0 n (fun k hk => h k (by omega))
    have := h n (by omega)
    unfold toN; omega
theorem frN_bd (z : Nat → Int × Int) (n : Nat) (h : ∀ k, k < n → -1125899906842624 ≤ (z k).1 ∧ (z k).1 ≤ 1125899906842624) : -1152921504606846976 ≤ frN z n ∧ frN z n ≤ 1125899906842624 := ⟨(frN_ge z n).1, frN_le z _ (by omega) n fun k hk => (h k hk).2⟩
theorem toN_bd (z : Nat → Int × Int) (n : Nat) (h : ∀ k, k < n → -1125899906842624 ≤ (z k).2 ∧ (z k).2 ≤ 1125899906842624) : -1125899906842624 ≤ toN z n ∧ toN z n ≤ 1152921504606846976 := ⟨toN_ge z _ (by omega) n fun k hk => (h k hk).1, (toN_le z n).1⟩
theorem ck_all0 (cap : Int) (w : Nat → Int) (z : Nat → Int × Int) (t : Int) (c0 : 1 ≤ cap) : ∀ n, (∀ k, k < n → 1 ≤ w k) → 0 ≤ ck cap w z t n ∧ (ck cap w z t n = 0 → ∀ k, k < n → res (z k) t = 0)
  | 0, _ => ⟨by unfold ck; omega, fun _ k hk => absurd hk (by omega)⟩
  | n + 1, hw => by
    obtain ⟨h1, h2⟩ := ck_all0 cap w z t c0 n (fun k hk => hw k (by omega))
    have w1 := hw n (by omega)
    have r0 := res0 (z n) t
    have m0 : 0 ≤ min (res (z n) t) cap := by omega
    have p0 : min (res (z n) t) cap ≤ w n * min (res (z n) t) cap := by
      have := Int.mul_le_mul_of_nonneg_right w1 m0
      rwa [Int.one_mul] at this
    unfold ck
    refine ⟨by omega, fun h k hk => ?_⟩
    by_cases e : k = n
    · subst e; omega
    · exact h2 (by omega) k (by omega)
theorem ck_0 (cap : Int) (w : Nat → Int) (z : Nat → Int × Int) (t : Int) (c0 : 1 ≤ cap) : ∀ n, (∀ k, k < n → res (z k) t = 0) → ck cap w z t n = 0
  | 0, _ => rfl
  | n + 1, h => by
    have := ck_0 cap w z t c0 n (fun k hk => h k (by omega))
    unfold ck
    rw [this, h n (by omega), show min 0 cap = 0 by omega, Int.mul_zero]
    rfl
theorem zero_iff {cap : Int} {w : Nat → Int} {z : Nat → Int × Int} {n : Nat} {t m : Int} (b : IsBest cap w z n t m) (h : Zw cap w z n) (hn : 0 < n) (c0 : 1 ≤ cap) (hw : ∀ k, k < n → 1 ≤ w k) (t0 : -1152921504606846976 ≤ t) (t9 : t ≤ 1152921504606846976) : m = 0 ↔ frN z n ≤ toN z n := by
  constructor
  · intro h0
    have i := b.is
    rw [h0] at i
    have R := (ck_all0 cap w z t c0 n hw).2 i.symm
    have A : ∀ k, k < n → (z k).1 ≤ t ∧ t ≤ (z k).2 := fun k hk => by have := R k hk; unfold res at this; omega
    have a1 := frN_le z t t0 n fun k hk => (A k hk).1
    have a2 := toN_ge z t t9 n fun k hk => (A k hk).2
    omega
  · intro hle
    have i := b.least h hn (frN z n)
    have e : ck cap w z (frN z n) n = 0 := ck_0 cap w z _ c0 n fun k hk => by
      have a1 := (frN_ge z n).2 k hk
      have a2 := (toN_le z n).2 k hk
      unfold res; omega
    have p := (ck_all0 cap w z t c0 n hw).1
    rw [← b.is] at p
    omega
end Mis
end Go.Proofs.YtldgihlhioeipaaGreat
