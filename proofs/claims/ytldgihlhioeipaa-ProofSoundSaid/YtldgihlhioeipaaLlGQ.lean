/- LlGQ: texts joined. -/
import Derived.Test.YtldgihlhioeipaaLocMF
import Derived.Test.YtldgihlhioeipaaGeoQ
import Derived.Test.YtldgihlhioeipaaRTU
import Derived.Test.YtldgihlhioeipaaQuiet
import Derived.Test.YtldgihlhioeipaaMisRN
import Derived.Test.YtldgihlhioeipaaGeoL
import Derived.Test.YtldgihlhioeipaaResMid
import Derived.Lib.MinMax
/- The search: its memory; add. -/
set_option linter.unusedVariables false
set_option linter.unusedSimpArgs false
namespace Go.Proofs.Ytldgihlhioeipaa
open Go.RowKit Qt
namespace Loc
/-- What a problem holds beside its region. -/
structure Pq where
  s : Int
  b1 : Nat
  n : Nat
  c1 : Nat
  b2 : Nat
  n2 : Nat
  c2 : Nat
  gp : Nat
  nl : Nat
  cc : Nat
  cap : Int
def box6 (B : Bx) : List Value := [.int .i64 B.a, .int .i64 B.b, .int .i64 B.c, .int .i64 B.d, .int .i64 B.e, .int .i64 B.f]
def prb (R : Bx) (q : Pq) : List Value := [.int .i64 R.a, .int .i64 R.b, .int .i64 R.c, .int .i64 R.d, .int .i64 R.e, .int .i64 R.f, .int .i64 q.s, .slice (some ⟨q.b1, 0, none⟩) q.n q.c1, .slice (some ⟨q.b2, 0, none⟩) q.n2 q.c2, .slice (some ⟨q.gp, 0, none⟩) q.nl q.cc, .int .i64 q.cap]
/-- What the walk asks of a problem, in all worlds behind A. -/
structure Pr (A : World) (Ak : Ask) (R : Bx) (q : Pq) : Prop where
  bound : ∀ w, Below A.heap.size A w → ∀ B, Sb R B → Calls Try.prog 50 #[.agg (prb R q).toArray, .agg (box6 B).toArray] w fun e w' => e = .returned (.tuple #[.int .i64 (Ak.F B), .int .i64 0]) ∧ Below w.heap.size w w'
  at_ : ∀ w, Below A.heap.size A w → ∀ p, inB R p → Calls Try.prog 13 #[.agg (prb R q).toArray, .agg #[.int .i64 p.1, .int .i64 p.2.1, .int .i64 p.2.2]] w fun e w' => e = .returned (.tuple #[.int .i64 (Ak.G p).1, .int .i64 (Ak.G p).2, .int .i64 0]) ∧ Below w.heap.size w w'
  vl : ∀ w, Below A.heap.size A w → Calls Try.prog 49 #[.agg (prb R q).toArray] w fun e w' => e = .returned (.int .i64 0) ∧ Below w.heap.size w w'
  sp : ∀ B, Sb R B → one B = false → ∀ w, Calls Try.prog 31 #[.agg (box6 B).toArray] w fun e w' => e = .returned (.tuple #[.agg (box6 (Ak.S B).1).toArray, .agg (box6 (Ak.S B).2).toArray, .bool true]) ∧ Below w.heap.size w w'
  good : Good Ak R
  bv : ∀ B, Sb R B → Geo.BV B.a B.b B.c B.d B.e B.f
  f0 : ∀ B, Sb R B → 0 ≤ Ak.F B ∧ Ak.F B ≤ 1125899906842624
  g0 : ∀ p, inB R p → 0 ≤ (Ak.G p).2 ∧ (Ak.G p).2 ≤ 1125899906842624
  few : 2 * np R - 1 ≤ 60000
def CS (R : Bx) (q : Pq) (st : St) (v : Value) : Array Value := #[.int .i64 R.a, .int .i64 R.b, .int .i64 R.c, .int .i64 R.d, .int .i64 R.e, .int .i64 R.f, .int .i64 q.s, .slice (some ⟨q.b1, 0, none⟩) q.n q.c1, .slice (some ⟨q.b2, 0, none⟩) q.n2 q.c2, .slice (some ⟨q.gp, 0, none⟩) q.nl q.cc, .int .i64 q.cap, v, .int .i64 st.nx, .int .i64 st.tk, .bool st.fd, .int .i64 st.x, .int .i64 st.y, .int .i64 st.z, .int .i64 st.t, .int .i64 st.m, .int .i64 0, .int .i64 0, .int .i64 0, .int .i64 0, .int .i64 0, .int .i64 0, .int .i64 0]
end Loc
end Go.Proofs.Ytldgihlhioeipaa

/- search.ended, search.consider. -/
set_option linter.unusedVariables false
set_option linter.unusedSimpArgs false
namespace Go.Proofs.Ytldgihlhioeipaa
open Go.RowKit Qt
namespace Loc
end Loc
end Go.Proofs.Ytldgihlhioeipaa

/- search.consider. -/
set_option linter.unusedVariables false
set_option linter.unusedSimpArgs false
namespace Go.Proofs.Ytldgihlhioeipaa
open Go.RowKit Qt
namespace Loc
theorem lex_cmp (a b c d e f : Int) : decide (Geo.cmp3 (Geo.cmpI a d) (Geo.cmpI b e) (Geo.cmpI c f) < 0) = lex3 (a, b, c) (d, e, f) := by
  unfold lex3 Geo.cmp3 Geo.cmpI
  simp only
  by_cases h1 : a = d
  · subst h1
    by_cases h2 : b = e
    · subst h2
      by_cases h3 : c < f
      · simp [h3]
      · by_cases h4 : f < c <;> simp [h3, h4]
    · by_cases h3 : b < e
      · simp [h2, h3]
      · have h4 : e < b := by omega
        simp [h2, h3, h4]
  · by_cases h3 : a < d
    · simp [h1, h3]
    · have h4 : d < a := by omega
      simp [h1, h3, h4]
end Loc
end Go.Proofs.Ytldgihlhioeipaa

/- search.take. -/
set_option linter.unusedVariables false
set_option linter.unusedSimpArgs false
namespace Go.Proofs.Ytldgihlhioeipaa
open Go.RowKit Qt
namespace Loc
end Loc
end Go.Proofs.Ytldgihlhioeipaa

/- locate.run. -/
set_option linter.unusedVariables false
set_option linter.unusedSimpArgs false
namespace Go.Proofs.Ytldgihlhioeipaa
open Go.RowKit Qt
namespace Loc
end Loc
end Go.Proofs.Ytldgihlhioeipaa

/- locate.Boxes; locate.Locate. -/
set_option linter.unusedVariables false
set_option linter.unusedSimpArgs false
namespace Go.Proofs.Ytldgihlhioeipaa
open Go.RowKit Qt
namespace Loc
theorem Pr.below {A w : World} {Ak : Ask} {R : Bx} {q : Pq} (P : Pr A Ak R q) (hb : Below A.heap.size A w) : Pr w Ak R q :=
  ⟨fun w' h' => P.bound w' (Buf.then_ hb h'), fun w' h' => P.at_ w' (Buf.then_ hb h'), fun w' h' => P.vl w' (Buf.then_ hb h'), P.sp, P.good, P.bv, P.f0, P.g0, P.few⟩
/-- What Locate returns. -/
def lrow (FN : St) (lo : Int) (A : Bx) : List Value := [.int .i64 FN.x, .int .i64 FN.y, .int .i64 FN.z, .int .i64 FN.t, .int .i64 FN.m, .int .i64 (lo), .int .i64 A.a, .int .i64 A.b, .int .i64 A.c, .int .i64 A.d, .int .i64 A.e, .int .i64 A.f]
theorem set_low (FN : St) (lo lo' : Int) (A : Bx) : (lrow FN lo A).toArray.setIfInBounds 5 (.int .i64 lo') = (lrow FN lo' A).toArray := rfl
theorem set_area (FN : St) (lo : Int) (A A' : Bx) : Mid.setMany (lrow FN lo A).toArray 6 (box6 A') = (lrow FN lo A').toArray := rfl
end Loc
end Go.Proofs.Ytldgihlhioeipaa

/- The problems of the laws as searches. -/
set_option linter.unusedVariables false
set_option linter.unusedSimpArgs false
namespace Go.Proofs.Ytldgihlhioeipaa
open Go.RowKit
namespace Loc
theorem sub_of {R B : Bx} (h : Sb R B) : Mis.Sub R.a R.b R.c R.d R.e R.f B.a B.b B.c B.d B.e B.f := ⟨h.a, h.b, h.c, h.x, h.y, h.z, h.d, h.e, h.f⟩
theorem sub_pt {R : Bx} {p : P3} (h : inB R p) : Mis.Sub R.a R.b R.c R.d R.e R.f p.1 p.2.1 p.2.2 p.1 p.2.1 p.2.2 := Mis.Sub.pt h.1 h.2.1 h.2.2.1 h.2.2.2.1 h.2.2.2.2.1 h.2.2.2.2.2
def Fm (s : Int) (lo hi : List Int) (cap : Int) (L : List Mis.Ph) (B : Bx) : Int := (Mis.mf s lo hi cap B.a B.b B.c B.d B.e B.f L).2
def Gm (s : Int) (lo hi : List Int) (cap : Int) (L : List Mis.Ph) (p : P3) : Int × Int := Mis.mf s lo hi cap p.1 p.2.1 p.2.2 p.1 p.2.1 p.2.2 L
/-- How boxes are split. -/
def Spl (R : Bx) (S : Bx → Bx × Bx) : Prop := ∀ B, Sb R B → one B = false →
  (∀ w, Calls Try.prog 31 #[.agg (box6 B).toArray] w fun e w' => e = .returned (.tuple #[.agg (box6 (S B).1).toArray, .agg (box6 (S B).2).toArray, .bool true]) ∧ Below w.heap.size w w') ∧
  (Sb B (S B).1 ∧ Sb B (S B).2 ∧ np (S B).1 + np (S B).2 = np B ∧ ∀ p, inB B p → inB (S B).1 p ∨ inB (S B).2 p)
theorem bv_sub {R B : Bx} (hR : Geo.BV R.a R.b R.c R.d R.e R.f) (h : Sb R B) : Geo.BV B.a B.b B.c B.d B.e B.f := (sub_of h).bv hR
section
variable {w : World} {gp cc nl : Nat} {L : List Mis.Ph} {R : Bx} {s : Int} {b1 b2 n : Nat} {cap : Int} {lo hi : List Int} {S : Bx → Bx × Bx}
theorem pr_of (hR : Mis.Rg R.a R.b R.c R.d R.e R.f) (W : Bound.Wide w s b1 b2 n lo hi) (hL : Mis.PhAllS L) (n1 : 1 ≤ L.length) (n9 : L.length ≤ 64) (c0 : 1 ≤ cap) (c9 : cap ≤ 2000) (hp : Mis.PhR w gp L) (hn : nl = L.length) (hc : nl ≤ cc) (c1 c2 : Nat) (hS : Spl R S) (few : 2 * np R - 1 ≤ 60000) :
    Pr w ⟨Fm s lo hi cap L, Gm s lo hi cap L, S⟩ R ⟨s, b1, n, c1, b2, n, c2, gp, nl, cc, cap⟩ where
  bound w' h' B hB := Mis.bound_of hR (W.below h') hL n1 n9 c0 c9 (hp.below h') hn hc c1 c2 B.a B.b B.c B.d B.e B.f (sub_of hB)
  at_ w' h' p hp' := Mis.at_of hR (W.below h') hL n1 n9 c0 c9 (hp.below h') hn hc c1 c2 p.1 p.2.1 p.2.2 (sub_pt hp')
  vl w' h' := Mis.validate_any (Mis.pk_of c1 c2 hR hL n1 n9 c0 c9) (W.below h') (hp.below h') hn hc
  sp B hB h1 := (hS B hB h1).1
  good := ⟨⟨Int.le_refl _, Int.le_refl _, Int.le_refl _, Int.le_refl _, Int.le_refl _, Int.le_refl _, hR.bv.x, hR.bv.y, hR.bv.z⟩, fun B hB h1 => (hS B hB h1).2⟩
  bv B hB := bv_sub hR.bv hB
  f0 B hB := by
    have h := Mis.best_bd hR (sub_of hB) W hL n1 n9 c0 c9
    exact ⟨h.1, by have := h.2.1; show (Mis.best _ _ _ _).2 ≤ _; omega⟩
  g0 p hp' := by
    have h := Mis.best_bd hR (sub_pt hp') W hL n1 n9 c0 c9
    exact ⟨h.1, by have := h.2.1; show (Mis.best _ _ _ _).2 ≤ _; omega⟩
  few := few
/-- The bound of a box is at most the misfit of each of its points. -/
theorem mono_of (hR : Mis.Rg R.a R.b R.c R.d R.e R.f) (W : Bound.Wide w s b1 b2 n lo hi) (hL : Mis.PhAllS L) (n1 : 1 ≤ L.length) (c0 : 1 ≤ cap) (B : Bx) (p : P3) (hB : Sb R B) (hp : inB B p) : Fm s lo hi cap L B ≤ (Gm s lo hi cap L p).2 :=
  Mis.best_sub hR (sub_of hB) (sub_pt (inB_sub hB hp)) (sub_pt hp) W hL n1 c0
end
end Loc
end Go.Proofs.Ytldgihlhioeipaa
