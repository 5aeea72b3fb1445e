/- Contract of filter.Apply; the filters that the dice make. -/
import Derived.Test.YtkoojgmfnelaiaaFilA
set_option linter.unusedVariables false
namespace Go.Proofs.Ytkoojgmfnelaiaa
open Go.RowKit Wi Dice
namespace Fil
theorem box3 {w w' : World} {b : Nat} {x y z : Value} {t : TypeId} (e : w.heap[b]? = some (.cells #[x, y, z] t (0, 0))) (hb : Below w.heap.size w w') : w'.heap[b]? = some (.cells #[x, y, z] t (0, 0)) :=
  (hb.block b (Array.getElem?_eq_some_iff.1 e).1).trans e
set_option maxHeartbeats 1000000 in
theorem apply_any {w : World} {v u : Value} {n n' s : Nat} {T X : Nat → Int} {fac : Int} (num : Int) (h : SV w v n T) (hx : SV w u n' X) (fg : FG n T fac s) (hn' : n' ≤ 65536) (hX : ∀ j, j < n' → -1073741823 ≤ X j ∧ X j ≤ 1073741823) (m0 : 0 ≤ num) (m1 : num ≤ 9007199254740992) :
    Calls Try.prog 14 #[.agg #[v, .int .i64 fac, .int .i64 s], u, .int .i64 num] w fun e w' => (∃ r, e = .returned (.tuple #[r, .int .i64 0]) ∧ Buf.Own w.heap.size w' r (ints (outs T X n s fac num n'))) ∧ Below w.heap.size w w' := by
  have V := Lib.hid fun w' (hb : Below w.heap.size w w') => valid_yes (h.below hb) fg
  have R := Lib.hid fun w' (hb : Below w.heap.size w w') => inRange_any (hx.below hb) (by omega) hX
  have O := Lib.hid fun w' (hb : Below w.heap.size w w') => outputs_any num (h.below hb) (hx.below hb) fg (by omega) hX m0 (by omega)
  have B0 := Lib.hid (heap_alloc_new w (.cells #[v, .int .i64 fac, .int .i64 s] 33))
  have W0 := Lib.hid (new_block (w := w) (.cells #[v, .int .i64 fac, .int .i64 s] 33))
  obtain ⟨a, c, rfl, h1, h2, _⟩ := h
  obtain ⟨a', c', rfl, g1, g2, _⟩ := hx
  clear fg hX
  go_enter Try.func14, Try.ntmps14
  go_wp2_with fail
  refine (V.out _ W0.out).mono ?_
  rintro e w1 ⟨rfl, hb⟩
  replace B0 := Lib.hid (box3 B0.out hb)
  replace W0 := Lib.hid (Buf.then_ W0.out hb)
  clear hb
  go_wp2_with (go_at_call 32; refine (within_yes _ _ _ _ (by omega) (by omega)).mono ?_; rintro e w2 ⟨rfl, m, rfl⟩)
  refine (R.out _ (Buf.below_drewN W0.out m)).mono ?_
  rintro e w3 ⟨rfl, hb⟩
  replace B0 := Lib.hid (box3 (w := w1.drewN m) B0.out hb)
  replace W0 := Lib.hid (Buf.then_ (Buf.below_drewN W0.out m) hb)
  obtain ⟨x0, x1, x2⟩ := cells3 B0.out
  clear hb
  go_wp2_with fail
  refine (O.out _ W0.out).mono ?_
  rintro e w4 ⟨⟨r, f, rfl, ho⟩, hb⟩
  have ho' := Lib.hid (ho.mono W0.out.size)
  replace W0 := Lib.hid (Buf.then_ W0.out hb)
  clear hb ho x0 x1 x2
  go_wp2_with fail
  go_ret2
  exact ⟨⟨_, rfl, ho'.out⟩, W0.out⟩
/-- A list as a function. -/
def fn (l : List Int) (k : Nat) : Int := l.getD k 0
theorem sv_own {B : Nat} {w : World} {v : Value} {l : List Int} (h : Buf.Own B w v (ints l)) : SV w v l.length (fn l) := by
  rcases h with ⟨rfl, hl⟩ | ⟨g, cap, e, hb⟩
  · have : l = [] := by simpa [ints] using hl
    subst this
    exact ⟨none, 0, rfl, Nat.le_refl _, Nat.zero_le _, fun h => by simp at h⟩
  · rw [ints_len] at e hb
    refine ⟨_, cap, e, hb.le, hb.max, fun hn => ⟨g, 0, rfl, hb.lt, fun j hj => ?_⟩⟩
    rw [Nat.zero_add, hb.cells j hj]
    simp [ints, fn, List.getD_eq_getElem?_getD, List.getElem?_eq_getElem hj]
theorem fn_old (l : List Int) (z : Int) (k : Nat) (hk : k < l.length) : fn (l ++ [z]) k = fn l k := by
  unfold fn; rw [List.getD_eq_getElem?_getD, List.getElem?_append_left hk, ← List.getD_eq_getElem?_getD]
theorem fn_last (l : List Int) (z : Int) : fn (l ++ [z]) l.length = z := by
  unfold fn; rw [List.getD_eq_getElem?_getD, List.getElem?_append_right (Nat.le_refl _)]; simp
theorem absum_snoc (l : List Int) (z : Int) : absum (fn (l ++ [z])) (l.length + 1) = absum (fn l) l.length + max z (-z) := by
  have e : absum (fn (l ++ [z])) (l.length + 1) = absum (fn (l ++ [z])) l.length + max (fn (l ++ [z]) l.length) (-fn (l ++ [z]) l.length) := rfl
  rw [e, fn_last, absum_congr _ (fn l) l.length (fun j hj => fn_old l z j hj)]
/-- What Filter returns: a good filter in new memory. -/
def Made (B : Nat) (w : World) (e : Ending) : Prop :=
  ∃ v l fac s, e = .returned (.agg #[v, .int .i64 fac, .int .i64 (s : Nat)]) ∧ Buf.Own B w v (ints l) ∧ FG l.length (fn l) fac s ∧ l.length ≤ 5 ∧ fac ≤ 3 ∧ s ≤ 6
theorem own_grown {B d : Nat} {w w' : World} {v : Value} {xs : List Value} (h : Buf.Own B w v xs) (hg : w.grownBy w' (some d)) (hd : d < B) : Buf.Own B w' v xs := by
  rcases h with h | ⟨g, cap, e, hb⟩
  · exact .inl h
  · exact .inr ⟨g, cap, e, hb.of_block (hg.block g hb.lt (by have := hb.base; simp; omega)) hg.size⟩
end Fil
end Go.Proofs.Ytkoojgmfnelaiaa
