/- The anchors that the dice make. -/
import Derived.Test.YtdcjpjdkamlheaaClockK
import Derived.Test.YtdcjpjdkamlheaaTri
import Derived.Deep.AppendLies
import Derived.Laws.OwnMore
set_option linter.unusedVariables false
namespace Go.Proofs.Ytdcjpjdkamlheaa
open Go.RowKit Wi Dice
namespace Clock
theorem own_below {w w' : World} {B : Nat} {e : TypeId} {s : Nat} {v : Value} {n : Nat} {xs : List Value} (h : w.ownsRow B e s v n xs) (hb : Below w.heap.size w w') : w'.ownsRow B e s v n xs :=
  h.kept (Dice.grown_of_below (r := none) hb) (by cases v.ownBlock <;> simp)
theorem own_grown {w w' : World} {B d : Nat} {e : TypeId} {s : Nat} {v : Value} {n : Nat} {xs : List Value} (h : w.ownsRow B e s v n xs) (hg : w.grownBy w' (some d)) (hd : d < B) : w'.ownsRow B e s v n xs :=
  h.kept hg (.inr (fun he => by have := (h.lt d he).1; omega))
theorem di_grown {W w w' : World} {g B : Nat} {r : Option Nat} {a : Option Addr} {len cap : Nat} {zs : List Int} (h : Di W w g a len cap zs) (hg : w.grownBy w' r) (hr : ∀ k, r = some k → B ≤ k) (hB : g < B) : Di W w' g a len cap zs := by
  obtain ⟨p, hp, hk⟩ := h.blk
  exact ⟨h.base, Nat.lt_of_lt_of_le h.lt hg.size, h.bel.grown hg h.bel.size (fun k hk => Nat.le_trans h.base (by have := hr k hk; omega)), h.row, h.small, p, hp, (hg.block g h.lt (fun e => by have := hr g e.symm; omega)).trans hk⟩
def tf (P : List (Int × Int × Int)) (k : Nat) : Int := (P.getD k (0, 0, 0)).1
def lf (P : List (Int × Int × Int)) (k : Nat) : Int := (P.getD k (0, 0, 0)).2.1
def hf (P : List (Int × Int × Int)) (k : Nat) : Int := (P.getD k (0, 0, 0)).2.2
theorem getD_old (P : List (Int × Int × Int)) (q : Int × Int × Int) (k : Nat) (hk : k < P.length) : (P ++ [q]).getD k (0, 0, 0) = P.getD k (0, 0, 0) := by
  rw [List.getD_eq_getElem?_getD, List.getElem?_append_left hk, ← List.getD_eq_getElem?_getD]
theorem getD_last (P : List (Int × Int × Int)) (q : Int × Int × Int) : (P ++ [q]).getD P.length (0, 0, 0) = q := by
  rw [List.getD_eq_getElem?_getD, List.getElem?_append_right (Nat.le_refl _)]; simp
/-- The anchors made so far, the tag and the time. -/
structure PG (jb : Bool) (P : List (Int × Int × Int)) (tag at_ : Int) : Prop where
  n5 : P.length ≤ 5
  t0 : 1000 ≤ tag
  t1 : tag ≤ 1000 + 20000 * P.length
  a0 : 1000000000000 - 500 * P.length ≤ at_ - (tag - 1000)
  a1 : at_ - (tag - 1000) ≤ 1000000000000 + 2000000 * P.length
  tr : jb = false → at_ - tag = 999999999000
  all : ∀ k, k < P.length → 1000 ≤ tf P k ∧ tf P k ≤ tag ∧ 999999000000 ≤ lf P k ∧ lf P k ≤ hf P k ∧ hf P k ≤ 1000100000000
  up : ∀ k, k + 1 < P.length → tf P k < tf P (k + 1)
  trs : jb = false → Tr P.length (tf P) (lf P) (hf P)
theorem PG.ok {jb : Bool} {P : List (Int × Int × Int)} {tag at_ : Int} (h : PG jb P tag at_) : Ok P.length (tf P) (lf P) (hf P) :=
  ⟨h.n5, fun k hk => by have := h.all k hk; omega, fun k hk => by have := h.all k hk; have := h.t1; have := h.n5; omega, h.up, fun k hk => by have := h.all k hk; omega, fun k hk => (h.all k hk).2.2.2.1, fun k hk => by have := h.all k hk; omega⟩
theorem PG.snoc {jb : Bool} {P : List (Int × Int × Int)} {tag at_ tag' at' a b : Int} (h : PG jb P tag at_) (hn : P.length < 5) (h1 : tag < tag') (h2 : tag' ≤ tag + 20000) (h3 : at_ - tag - 500 ≤ at' - tag') (h4 : at' - tag' ≤ at_ - tag + 2000000) (htr : jb = false → at' - tag' = at_ - tag) (a0 : 0 ≤ a) (a1 : a < 40) (b0 : 0 ≤ b) (b1 : b < 40) :
    PG jb (P ++ [(tag', at' - a, at' + b)]) tag' at' := by
  obtain ⟨n5, t0, t1, c0, c1, tr, all, up, trs⟩ := h
  have hl : (P ++ [(tag', at' - a, at' + b)]).length = P.length + 1 := by simp
  have tl : tf (P ++ [(tag', at' - a, at' + b)]) P.length = tag' ∧ lf (P ++ [(tag', at' - a, at' + b)]) P.length = at' - a ∧ hf (P ++ [(tag', at' - a, at' + b)]) P.length = at' + b := by
    unfold tf lf hf; rw [getD_last]; exact ⟨rfl, rfl, rfl⟩
  have told : ∀ k, k < P.length → tf (P ++ [(tag', at' - a, at' + b)]) k = tf P k ∧ lf (P ++ [(tag', at' - a, at' + b)]) k = lf P k ∧ hf (P ++ [(tag', at' - a, at' + b)]) k = hf P k := fun k hk => by
    unfold tf lf hf; rw [getD_old _ _ _ hk]; exact ⟨rfl, rfl, rfl⟩
  refine ⟨by omega, by omega, by rw [hl]; omega, by rw [hl]; omega, by rw [hl]; omega, fun hj => by have := htr hj; have := tr hj; omega, fun k hk => ?_, fun k hk => ?_, fun hj k hk => ?_⟩
  · rw [hl] at hk
    by_cases he : k < P.length
    · obtain ⟨x, y, z⟩ := told k he; have := all k he; rw [x, y, z]; omega
    · obtain rfl : k = P.length := by omega
      obtain ⟨x, y, z⟩ := tl; rw [x, y, z]; omega
  · rw [hl] at hk
    have e0 := (told k (by omega)).1
    by_cases he : k + 1 < P.length
    · rw [e0, (told (k + 1) he).1]; exact up k he
    · have : k + 1 = P.length := by omega
      rw [e0, this, tl.1]; have := all k (by omega); omega
  · rw [hl] at hk
    have := htr hj; have := tr hj
    by_cases he : k < P.length
    · obtain ⟨x, y, z⟩ := told k he; rw [x, y, z]; exact trs hj k he
    · obtain rfl : k = P.length := by omega
      obtain ⟨x, y, z⟩ := tl; rw [x, y, z]; omega
/-- The memory of a list of anchors. -/
theorem as_of {w : World} {B n g c : Nat} {e : TypeId} {P : List (Int × Int × Int)} (h : w.ownsRow B e 3 (.slice (some ⟨g, 0, none⟩) n c) n (Tri.cells P)) (hn : n = P.length) : As w g n (tf P) (lf P) (hf P) := by
  intro k hk
  have hq : P[k]? = some (P.getD k (0, 0, 0)) := by
    rw [List.getD_eq_getElem?_getD, List.getElem?_eq_getElem (by omega)]; rfl
  obtain ⟨x, y, z⟩ := Tri.cells_get P k _ hq
  exact ⟨(h.cellAt (k * 3) (by omega)).trans x, (h.cellAt (k * 3 + 1) (by omega)).trans y, (h.cellAt (k * 3 + 2) (by omega)).trans z⟩
/-- What Anchors returns. -/
def Anch (jb : Bool) (B : Nat) (w : World) (e : Ending) : Prop :=
  ∃ v x P tag at_, e = .returned (.tuple #[v, .int .i64 x]) ∧ 0 ≤ x ∧ x ≤ 50000 ∧ PG jb P tag at_ ∧ w.ownsRow B 56 3 v P.length (Tri.cells P)
theorem infoA : (Try.prog.info? 56).map (fun i => (i.zero, i.size, i.bytes)) = some (some (.agg #[.int .i64 0, .int .i64 0, .int .i64 0]), 3, 24) := by kernel_rfl
/-- The memory while anchors are made. -/
structure AM (W w : World) (B d : Nat) (a : Option Addr) (len cap : Nat) (zs : List Int) (w' : World) (v : Value) (P : List (Int × Int × Int)) : Prop where
  l : Dice.Left W w w' d a len cap zs
  o : w'.ownsRow B 56 3 v P.length (Tri.cells P)
  dB : d < B
theorem AM.left {W w w1 w2 : World} {B d : Nat} {a : Option Addr} {len cap : Nat} {zs : List Int} {v : Value} {P : List (Int × Int × Int)} (h : AM W w B d a len cap zs w1 v P) (hl : Dice.Left W w1 w2 d a len cap zs) : AM W w B d a len cap zs w2 v P :=
  ⟨h.l.trans hl, own_grown h.o hl.far h.dB, h.dB⟩
theorem AM.below {W w w1 w2 : World} {B d : Nat} {a : Option Addr} {len cap : Nat} {zs : List Int} {v : Value} {P : List (Int × Int × Int)} (h : AM W w B d a len cap zs w1 v P) (hb : Below w1.heap.size w1 w2) : AM W w B d a len cap zs w2 v P :=
  ⟨h.l.below hb, own_below h.o hb, h.dB⟩
end Clock
end Go.Proofs.Ytdcjpjdkamlheaa
