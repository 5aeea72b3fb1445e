/- Rows of records: what a slice of records holds. -/
import Derived.Test.YtojfnegogdllfaaRecR
import Derived.OwnWalk
import Derived.Laws.AppendOwn
import Derived.Laws.OwnMore
set_option linter.unusedVariables false
set_option linter.unusedSimpArgs false
namespace Go.Proofs.Ytojfnegogdllfaa
open Go.RowKit
namespace Rec
open Dice Sc
structure Rd where
  st : Int
  fi : Int
  num : Int
  den : Int
  er : Int
  ru : Int
  se : Int
  b : Nat
  n : Nat
  c : Nat
  xs : List Int
section
variable {s0 s1 s2 s3 : List UInt8}
def Rd.row (s0 s1 s2 s3 : List UInt8) (r : Rd) : List Value := [.string ⟨s0.toArray⟩, .string ⟨s1.toArray⟩, .string ⟨s2.toArray⟩, .string ⟨s3.toArray⟩, .int .i64 r.st, .int .i64 r.fi, .int .i64 r.num, .int .i64 r.den, .int .i64 r.er, .int .i64 r.ru, .int .i64 r.se, .slice (some ⟨r.b, 0, none⟩) r.n r.c]
structure Rd.Ok (s0 s1 s2 s3 : List UInt8) (B : Nat) (w : World) (r : Rd) : Prop where
  rp : RP s0 s1 s2 s3 r.st r.fi r.num r.den r.er r.ru r.se
  rx : RX w r.b r.n r.c r.xs
  base : B ≤ r.b
def rows (s0 s1 s2 s3 : List UInt8) (L : List Rd) : List Value := L.flatMap (Rd.row s0 s1 s2 s3)
theorem rows_snoc (L : List Rd) (r : Rd) : rows s0 s1 s2 s3 (L ++ [r]) = rows s0 s1 s2 s3 L ++ Rd.row s0 s1 s2 s3 r := by simp [rows, List.flatMap_append]
theorem rows_length (L : List Rd) : (rows s0 s1 s2 s3 L).length = L.length * 12 := by
  induction L with
  | nil => rfl
  | cons r L ih => simp only [rows, List.flatMap_cons, List.length_append, List.length_cons] at ih ⊢; rw [ih]; simp [Rd.row]; omega
theorem rows_get (L : List Rd) : ∀ (k : Nat) (r : Rd), L[k]? = some r → ∀ j, j < 12 → (rows s0 s1 s2 s3 L)[k * 12 + j]? = (Rd.row s0 s1 s2 s3 r)[j]? := by
  induction L with
  | nil => intro k r h; simp at h
  | cons q L ih =>
    intro k r h j hj
    have hq : (Rd.row s0 s1 s2 s3 q).length = 12 := rfl
    show (Rd.row s0 s1 s2 s3 q ++ rows s0 s1 s2 s3 L)[k * 12 + j]? = _
    cases k with
    | zero => simp at h; subst h; rw [Nat.zero_mul, Nat.zero_add, List.getElem?_append_left (by omega)]
    | succ k =>
      rw [List.getElem?_append_right (by omega), hq, show (k + 1) * 12 + j - 12 = k * 12 + j by omega]
      exact ih k r (by simpa using h) j hj
/-- The slice v of the records L. -/
structure RS (s0 s1 s2 s3 : List UInt8) (B : Nat) (w : World) (v : Value) (L : List Rd) : Prop where
  own : w.ownsRow B 32 12 v L.length (rows s0 s1 s2 s3 L)
  ok : ∀ r ∈ L, Rd.Ok s0 s1 s2 s3 B w r
  nil : L = [] → v = .slice none 0 0
theorem RS.ne {B : Nat} {w : World} {v : Value} {L : List Rd} (h : RS s0 s1 s2 s3 B w v L) {b n c : Nat} {xs : List Int} (X : RX w b n c xs) : v.ownBlock ≠ some b := by
  intro e
  cases L with
  | nil => rw [h.nil rfl] at e; cases e
  | cons r L =>
    have h1 := h.own.cells (g := b) e 0 (.string ⟨s0.toArray⟩) (by simp [rows, Rd.row])
    rw [Addr.add_lit, Nat.zero_add] at h1
    have h2 := (X.at_ (k := 0) (by have := X.h1; omega)).1
    rw [h1] at h2
    cases h2
theorem RS.keep {B : Nat} {w w' : World} {v : Value} {L : List Rd} (h : RS s0 s1 s2 s3 B w v L) (hl : Below w.heap.size w w') : RS s0 s1 s2 s3 B w' v L :=
  ⟨own_kept h.own fun k hk => hl.block k (h.own.lt k hk).2, fun r hr => ⟨(h.ok r hr).rp, (h.ok r hr).rx.keep hl, (h.ok r hr).base⟩, h.nil⟩
theorem RS.far {B g : Nat} {w w' : World} {v : Value} {L : List Rd} (h : RS s0 s1 s2 s3 B w v L) (hg : g < B) (hl : w.grownBy w' (some g)) : RS s0 s1 s2 s3 B w' v L :=
  ⟨own_kept h.own fun k hk => hl.block k (h.own.lt k hk).2 (by have := (h.own.lt k hk).1; simp; omega),
   fun r hr => ⟨(h.ok r hr).rp, (h.ok r hr).rx.kept (hl.block r.b (h.ok r hr).rx.sr.1 (by have := (h.ok r hr).base; simp; omega)) hl.size, (h.ok r hr).base⟩, h.nil⟩
theorem Rd.Ok.far {B g : Nat} {w w' : World} {r : Rd} (h : Rd.Ok s0 s1 s2 s3 B w r) (hg : g < B) (hl : w.grownBy w' (some g)) : Rd.Ok s0 s1 s2 s3 B w' r :=
  ⟨h.rp, h.rx.kept (hl.block r.b h.rx.sr.1 (by have := h.base; simp; omega)) hl.size, h.base⟩
theorem Rd.Ok.keep {B : Nat} {w w' : World} {r : Rd} (h : Rd.Ok s0 s1 s2 s3 B w r) (hl : Below w.heap.size w w') : Rd.Ok s0 s1 s2 s3 B w' r := ⟨h.rp, h.rx.keep hl, h.base⟩
theorem RS.more {B : Nat} {w w' : World} {v v' : Value} {L : List Rd} {r : Rd} (h : RS s0 s1 s2 s3 B w v L) (hr : Rd.Ok s0 s1 s2 s3 B w r) (hg : w.grownBy w' v.ownBlock)
    (ho : w'.ownsRow B 32 12 v' (L.length + 1) (rows s0 s1 s2 s3 L ++ Rd.row s0 s1 s2 s3 r)) : RS s0 s1 s2 s3 B w' v' (L ++ [r]) := by
  refine ⟨by rw [rows_snoc, List.length_append]; exact ho, fun q hq => ?_, fun e => by simp at e⟩
  have hk : Rd.Ok s0 s1 s2 s3 B w q := by
    rcases List.mem_append.1 hq with h1 | h1
    · exact h.ok q h1
    · simp at h1; subst h1; exact hr
  exact ⟨hk.rp, hk.rx.kept (hg.block q.b hk.rx.sr.1 (fun e => h.ne hk.rx e.symm)) hg.size, hk.base⟩
theorem RS.cells {B : Nat} {w : World} {g m c : Nat} {L : List Rd} (h : RS s0 s1 s2 s3 B w (.slice (some ⟨g, 0, none⟩) m c) L) {k : Nat} {r : Rd} (hk : L[k]? = some r) (j : Nat) (u : Value) (hu : (Rd.row s0 s1 s2 s3 r)[j]? = some u) : w.cell? ⟨g, k * 12 + j, none⟩ = some u := by
  have hj : j < 12 := by have := (List.getElem?_eq_some_iff.1 hu).1; simpa [Rd.row] using this
  have := h.own.cells (g := g) rfl (k * 12 + j) u (by rw [rows_get L k r hk j hj, hu])
  rwa [Addr.add_lit, Nat.zero_add] at this
theorem row_one (r : Rd) : ∀ u ∈ Rd.row s0 s1 s2 s3 r, u.oneCell' = true := by
  intro u hu
  simp only [Rd.row, List.mem_cons, List.not_mem_nil, or_false] at hu
  rcases hu with rfl | rfl | rfl | rfl | rfl | rfl | rfl | rfl | rfl | rfl | rfl | rfl <;> rfl
end
end Rec
end Go.Proofs.Ytojfnegogdllfaa
