/- Contracts of cloneFilter, Start, ValidFeed. -/
import Derived.Test.YtmnafkfjmeoklaaFsB
set_option linter.unusedVariables false
namespace Go.Proofs.Ytmnafkfjmeoklaa
open Go.RowKit Wi Dice
namespace Fil
theorem two_old (w : World) (x y : Obj) : ((w.alloc x).alloc y).heap[w.heap.size]? = some x := (heap_alloc_old (w.alloc x) y (by simp)).trans (heap_alloc_new w x)
theorem two_new (w : World) (x y : Obj) : ((w.alloc x).alloc y).heap[w.heap.size + 1]? = some y := by
  have := heap_alloc_new (w.alloc x) y
  simpa using this
theorem two_below (w : World) (x y : Obj) : Below w.heap.size w ((w.alloc x).alloc y) := (new_block x).alloc (by simp) y
theorem hop {w w' : World} {b : Nat} {o : Obj} (e : w.heap[b]? = some o) (hb : Below w.heap.size w w') : w'.heap[b]? = some o := (hb.block b (Array.getElem?_eq_some_iff.1 e).1).trans e
theorem free3 {w : World} {g : Nat} {x y z : Value} {t : TypeId} (h : w.heap[g]? = some (.cells #[x, y, z] t (0, 0))) : w.frozen? ⟨g, 0, none⟩ = false ∧ w.frozen? ⟨g, 1, none⟩ = false ∧ w.frozen? ⟨g, 2, none⟩ = false :=
  ⟨frozen_of_row w g 0 _ _ h, frozen_of_row w g 1 _ _ h, frozen_of_row w g 2 _ _ h⟩
theorem cells5 {w : World} {g : Nat} {x0 x1 x2 x3 x4 : Value} {t : TypeId} (h : w.heap[g]? = some (.cells #[x0, x1, x2, x3, x4] t (0, 0))) : w.cell? ⟨g, 0, none⟩ = some x0 ∧ w.cell? ⟨g, 1, none⟩ = some x1 ∧ w.cell? ⟨g, 2, none⟩ = some x2 ∧ w.cell? ⟨g, 3, none⟩ = some x3 ∧ w.cell? ⟨g, 4, none⟩ = some x4 :=
  ⟨(cell_of_row w g 0 _ _ _ h).trans rfl, (cell_of_row w g 1 _ _ _ h).trans rfl, (cell_of_row w g 2 _ _ _ h).trans rfl, (cell_of_row w g 3 _ _ _ h).trans rfl, (cell_of_row w g 4 _ _ _ h).trans rfl⟩
theorem free5 {w : World} {g : Nat} {x0 x1 x2 x3 x4 : Value} {t : TypeId} (h : w.heap[g]? = some (.cells #[x0, x1, x2, x3, x4] t (0, 0))) : w.frozen? ⟨g, 0, none⟩ = false ∧ w.frozen? ⟨g, 1, none⟩ = false ∧ w.frozen? ⟨g, 2, none⟩ = false ∧ w.frozen? ⟨g, 3, none⟩ = false ∧ w.frozen? ⟨g, 4, none⟩ = false :=
  ⟨frozen_of_row w g 0 _ _ h, frozen_of_row w g 1 _ _ h, frozen_of_row w g 2 _ _ h, frozen_of_row w g 3 _ _ h, frozen_of_row w g 4 _ _ h⟩
theorem own_form {B : Nat} {w : World} {r : Value} {n : Nat} {X : Nat → Int} (h : Buf.Own B w r (ints (lst n X))) : ∃ a c, r = .slice a n c := by
  obtain ⟨a, c, e⟩ := own_len h
  rw [ints_len, lst_len] at e
  exact ⟨a, c, e⟩
set_option maxRecDepth 100000 in
set_option maxHeartbeats 2000000 in
theorem cloneFilter_any {w : World} {v : Value} {n : Nat} {T : Nat → Int} {fac s : Int} (h : SV w v n T) (hn : n ≤ 1000000) :
    Calls Try.prog 30 #[.agg #[v, .int .i64 fac, .int .i64 s]] w fun e w' => (∃ r, e = .returned (.agg #[r, .int .i64 fac, .int .i64 s]) ∧ Buf.Own w.heap.size w' r (ints (lst n T))) ∧ Below w.heap.size w w' := by
  have C := Lib.hid fun w' (hb : Below w.heap.size w w') => clone_sv (h.below hb) hn
  have W0 := Lib.hid (two_below w (.cells #[v, .int .i64 fac, .int .i64 s] 33) (.cells #[.slice none 0 0, .int .i64 0, .int .i64 0] 33))
  have B0 := Lib.hid (two_old w (.cells #[v, .int .i64 fac, .int .i64 s] 33) (.cells #[.slice none 0 0, .int .i64 0, .int .i64 0] 33))
  have B1 := Lib.hid (two_new w (.cells #[v, .int .i64 fac, .int .i64 s] 33) (.cells #[.slice none 0 0, .int .i64 0, .int .i64 0] 33))
  have hz : Hid (((w.alloc (.cells #[v, .int .i64 fac, .int .i64 s] 33)).alloc (.cells #[.slice none 0 0, .int .i64 0, .int .i64 0] 33)).heap.size = w.heap.size + 1 + 1) := Lib.hid (by simp)
  obtain ⟨a, c, rfl, _, _, _⟩ := h
  go_enter Try.func30, Try.ntmps30
  go_wp2_with fail
  refine (C.out _ W0.out).mono ?_
  rintro e w1 ⟨⟨r, rfl, hr⟩, hb⟩
  rw [hz.out] at hr
  obtain ⟨ra, rc, rfl⟩ := own_form hr
  have O := Lib.hid hr
  replace B0 := Lib.hid (hop B0.out hb)
  replace B1 := Lib.hid (hop B1.out hb)
  replace W0 := Lib.hid (Buf.then_ W0.out hb)
  clear hb C hr hz
  have q0 := free3 B0.out
  have q1 := free3 B1.out
  obtain ⟨y0, y1, y2⟩ := cells3 B0.out
  obtain ⟨f0, _, _⟩ := q0
  obtain ⟨g0, g1, g2⟩ := q1
  obtain ⟨z0, z1, z2⟩ := cells3 B1.out
  go_wp2_with fail
  have B2 := (Below.heap_setCell w1 ⟨w.heap.size, 0, none⟩ (.slice ra n rc) _ (by show w.heap.size + 1 ≠ w.heap.size; omega)).trans B1.out
  have TT := st3 B2 (.slice ra n rc) (.int .i64 fac) (.int .i64 s)
  obtain ⟨e0, e1, e2⟩ := cells3 TT
  have OO := own_far (own_far (own_far (own_far O.out (b := w.heap.size) (by omega) 0 (.slice ra n rc)) (b := w.heap.size + 1) (by omega) 0 (.slice ra n rc)) (b := w.heap.size + 1) (by omega) 1 (.int .i64 fac)) (b := w.heap.size + 1) (by omega) 2 (.int .i64 s)
  have WW := (((W0.out.setCell (p := ⟨w.heap.size, 0, none⟩) (Nat.le_refl _) (.slice ra n rc)).setCell (p := ⟨w.heap.size + 1, 0, none⟩) (by simp) (.slice ra n rc)).setCell (p := ⟨w.heap.size + 1, 1, none⟩) (by simp) (.int .i64 fac)).setCell (p := ⟨w.heap.size + 1, 2, none⟩) (by simp) (.int .i64 s)
  refine bodyPost_ret (v := .agg #[.slice ra n rc, .int .i64 fac, .int .i64 s]) (by simp [results, Try.results30, go_sem, e0, e1, e2]) rfl ⟨⟨_, rfl, OO.mono (by omega)⟩, WW⟩
theorem set5 {w : World} {g : Nat} {x0 x1 x2 x3 x4 : Value} {t : TypeId} (h : w.heap[g]? = some (.cells #[x0, x1, x2, x3, x4] t (0, 0))) (y0 y1 y2 y3 y4 : Value) :
    (((((w.setCell ⟨g, 0, none⟩ y0).setCell ⟨g, 1, none⟩ y1).setCell ⟨g, 2, none⟩ y2).setCell ⟨g, 3, none⟩ y3).setCell ⟨g, 4, none⟩ y4).heap[g]? = some (.cells #[y0, y1, y2, y3, y4] t (0, 0)) := by
  have h0 := (heap_setCell_same w g 0 _ _ y0 h).trans rfl
  have h1 := (heap_setCell_same _ g 1 _ _ y1 h0).trans rfl
  have h2 := (heap_setCell_same _ g 2 _ _ y2 h1).trans rfl
  have h3 := (heap_setCell_same _ g 3 _ _ y3 h2).trans rfl
  exact (heap_setCell_same _ g 4 _ _ y4 h3).trans rfl
theorem below_set5 {B : Nat} {w0 w : World} (h : Below B w0 w) (g : Nat) (hg : B ≤ g) (y0 y1 y2 y3 y4 : Value) :
    Below B w0 (((((w.setCell ⟨g, 0, none⟩ y0).setCell ⟨g, 1, none⟩ y1).setCell ⟨g, 2, none⟩ y2).setCell ⟨g, 3, none⟩ y3).setCell ⟨g, 4, none⟩ y4) :=
  ((((h.setCell (p := ⟨g, 0, none⟩) hg y0).setCell (p := ⟨g, 1, none⟩) hg y1).setCell (p := ⟨g, 2, none⟩) hg y2).setCell (p := ⟨g, 3, none⟩) hg y3).setCell (p := ⟨g, 4, none⟩) hg y4
theorem own_set5 {B : Nat} {w : World} {v : Value} {xs : List Value} (h : Buf.Own B w v xs) (g : Nat) (hg : g < B) (y0 y1 y2 y3 y4 : Value) :
    Buf.Own B (((((w.setCell ⟨g, 0, none⟩ y0).setCell ⟨g, 1, none⟩ y1).setCell ⟨g, 2, none⟩ y2).setCell ⟨g, 3, none⟩ y3).setCell ⟨g, 4, none⟩ y4) v xs :=
  own_far (own_far (own_far (own_far (own_far h hg 0 y0) hg 1 y1) hg 2 y2) hg 3 y3) hg 4 y4
theorem drewn {w : World} {b : Nat} {o : Obj} (e : w.heap[b]? = some o) (m : Nat) : (w.drewN m).heap[b]? = some o := e
set_option maxRecDepth 100000 in
set_option maxHeartbeats 2000000 in
theorem start_any {w : World} {v : Value} {n s : Nat} {T : Nat → Int} {fac : Int} (num : Int) (h : SV w v n T) (fg : FG n T fac s) (m0 : 0 ≤ num) (m1 : num ≤ 9007199254740992) :
    Calls Try.prog 16 #[.agg #[v, .int .i64 fac, .int .i64 s], .int .i64 num] w fun e w' => (∃ r, e = .returned (.tuple #[.agg #[r, .int .i64 fac, .int .i64 s, .slice none 0 0, .int .i64 num], .int .i64 0]) ∧ Buf.Own w.heap.size w' r (ints (lst n T))) ∧ Below w.heap.size w w' := by
  have V := Lib.hid fun w' (hb : Below w.heap.size w w') => valid_yes (h.below hb) fg
  have n2 := fg.n2
  have C := Lib.hid fun w' (hb : Below w.heap.size w w') => cloneFilter_any (fac := fac) (s := (s : Int)) (h.below hb) (by omega)
  have W0 := Lib.hid (two_below w (.cells #[v, .int .i64 fac, .int .i64 s] 33) (.cells #[.slice none 0 0, .int .i64 0, .int .i64 0, .slice none 0 0, .int .i64 0] 45))
  have B0 := Lib.hid (two_old w (.cells #[v, .int .i64 fac, .int .i64 s] 33) (.cells #[.slice none 0 0, .int .i64 0, .int .i64 0, .slice none 0 0, .int .i64 0] 45))
  have B1 := Lib.hid (two_new w (.cells #[v, .int .i64 fac, .int .i64 s] 33) (.cells #[.slice none 0 0, .int .i64 0, .int .i64 0, .slice none 0 0, .int .i64 0] 45))
  have hz : Hid (((w.alloc (.cells #[v, .int .i64 fac, .int .i64 s] 33)).alloc (.cells #[.slice none 0 0, .int .i64 0, .int .i64 0, .slice none 0 0, .int .i64 0] 45)).heap.size = w.heap.size + 1 + 1) := Lib.hid (by simp)
  obtain ⟨a, c, rfl, _, _, _⟩ := h
  clear fg
  go_enter Try.func16, Try.ntmps16
  go_wp2_with fail
  refine (V.out _ W0.out).mono ?_
  rintro e w1 ⟨rfl, hb⟩
  replace B0 := Lib.hid (hop B0.out hb)
  replace B1 := Lib.hid (hop B1.out hb)
  replace W0 := Lib.hid (Buf.then_ W0.out hb)
  have hz1 := hb.size
  rw [hz.out] at hz1
  clear hb V hz
  go_wp2_with (go_at_call 27; refine (within_yes _ _ _ _ (by omega) (by omega)).mono ?_; rintro e w2 ⟨rfl, m, rfl⟩; have d0 := cells3 (drewn B0.out m); obtain ⟨y0, y1, y2⟩ := d0)
  refine (C.out _ (Buf.below_drewN W0.out m)).mono ?_
  rintro e w2 ⟨⟨r, rfl, hr⟩, hb⟩
  obtain ⟨ra, rc, rfl⟩ := own_form hr
  have O := Lib.hid (hr.mono (show w.heap.size + 1 + 1 ≤ (w1.drewN m).heap.size from hz1))
  replace B1 := Lib.hid (hop (w := w1.drewN m) B1.out hb)
  replace W0 := Lib.hid (Buf.then_ (Buf.below_drewN W0.out m) hb)
  clear hb C hr y0 y1 y2 B0
  obtain ⟨z0, z1, z2, z3, z4⟩ := cells5 B1.out
  obtain ⟨g0, g1, g2, g3, g4⟩ := free5 B1.out
  go_wp2_with fail
  have TT := set5 B1.out (.slice ra n rc) (.int .i64 fac) (.int .i64 s) (.slice none 0 0) (.int .i64 num)
  obtain ⟨e0, e1, e2, e3, e4⟩ := cells5 TT
  have OO := own_set5 O.out (w.heap.size + 1) (by omega) (.slice ra n rc) (.int .i64 fac) (.int .i64 s) (.slice none 0 0) (.int .i64 num)
  have WW := below_set5 W0.out (w.heap.size + 1) (by omega) (.slice ra n rc) (.int .i64 fac) (.int .i64 s) (.slice none 0 0) (.int .i64 num)
  refine bodyPost_ret (v := .tuple #[.agg #[.slice ra n rc, .int .i64 fac, .int .i64 s, .slice none 0 0, .int .i64 num], .int .i64 0]) (by simp [results, Try.results16, go_sem, e0, e1, e2, e3, e4]) rfl ⟨⟨_, rfl, OO.mono (by omega)⟩, WW⟩
end Fil
end Go.Proofs.Ytmnafkfjmeoklaa
