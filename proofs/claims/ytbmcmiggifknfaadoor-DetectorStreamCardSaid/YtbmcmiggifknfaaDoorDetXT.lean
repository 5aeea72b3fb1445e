/- slices.Clone: the block of what it returns is a row of ints. -/
import Derived.Test.YtbmcmiggifknfaaDoorDetX
import Derived.Laws.AppendOwn
set_option linter.unusedVariables false
set_option linter.unusedSimpArgs false
namespace Go.Proofs.YtbmcmiggifknfaaDoor
open Go.RowKit Wi Dice
namespace Det
/-- The block of a slice is a row of ints. -/
def Ty (w : World) (v : Value) : Prop := ∀ b, v.ownBlock = some b → ∃ cs, w.heap[b]? = some (.cells cs 3 (0, 0))
theorem own_rowty {w : World} {B : Nat} {e : TypeId} {v : Value} {n : Nat} {xs : List Value} (h : w.ownsRow B e 1 v n xs) : Buf.Own B w v xs ∧ ∀ b, v.ownBlock = some b → ∃ cs, w.heap[b]? = some (.cells cs e (0, 0)) := by
  have hl : xs.length = n := by rw [h.1, Nat.mul_one]
  rcases id h.2 with ⟨rfl, rfl⟩ | ⟨g, cap, cur, rfl, hb, hg, h1, h2, h3, h4⟩
  · exact ⟨.inl ⟨rfl, List.eq_nil_of_length_eq_zero hl⟩, fun b hb => by cases hb⟩
  · have hlt := (Array.getElem?_eq_some_iff.1 hg).1
    refine ⟨.inr ⟨g, cap, by rw [hl], hb, hlt, rfl, by rw [hl]; exact h1, h2, fun j hj => h.cellAt j (by omega), fun j hj => ?_, fun j hj => frozen_of_row w g j _ _ hg⟩, fun b hb => by cases hb; exact ⟨cur, hg⟩⟩
    rw [cell_of_row w g j _ _ _ hg, Array.getElem?_eq_getElem (by omega)]
    rfl
theorem sv_at0 {w : World} {a : Option Addr} {n c : Nat} {X : Nat → Int} (h : SV w (.slice a n c) n X) (h0 : 0 < n) : ∃ b off, a = some ⟨b, off, none⟩ ∧ b < w.heap.size ∧ ∀ j, j < n → w.cell? ⟨b, off + j, none⟩ = some (.int .i64 (X j)) := by
  obtain ⟨a', c', e, _, _, h3⟩ := h
  cases e
  exact h3 h0
set_option maxHeartbeats 4000000 in
theorem clone_ty {w : World} {v : Value} {n : Nat} {X : Nat → Int} (h : SV w v n X) (h9 : n ≤ 1000000) :
    Calls Tryd.prog 29 #[v] w fun e w' => (∃ r, e = .returned r ∧ Buf.Own w.heap.size w' r (ints (lst n X)) ∧ Ty w' r) ∧ Below w.heap.size w w' := by
  obtain ⟨i0, hi, hz0, hz1, hz2⟩ := info_parts infoI
  have S := h.below (new_block (w := w) (.cells #[] 3))
  obtain ⟨a, c, rfl, h1, h2, h3⟩ := h
  have q := fun (w : World) => Lib.run_eql_slice_nil (P := Tryd.prog) w 22 3 a n c 0 0 rfl
  cases a with
  | none =>
    have h0 : n = 0 := by
      rcases Nat.eq_zero_or_pos n with h0 | h0
      · exact h0
      · obtain ⟨b, off, e, _⟩ := h3 h0; cases e
    subst h0
    clear h3 S
    have q' : ∀ w : World, (binOp .eql 22 (.slice none 0 c) (.slice none 0 0)).run Tryd.prog w = .ok (.bool true) w := q
    clear q
    go_enter Tryd.func29, Tryd.ntmps29
    go_wp2_with fail
    go_ret
    exact ⟨⟨_, rfl, Buf.Own.nil _ _, fun b hb => by cases hb⟩, Below.refl _ _⟩
  | some ad =>
    have q' : ∀ w : World, (binOp .eql 22 (.slice (some ad) n c) (.slice none 0 0)).run Tryd.prog w = .ok (.bool false) w := q
    have S2 : Hid (∀ j u, (ints (lst n X))[j]? = some u → (w.alloc (.cells #[] 3)).cell? (ad.add j) = some u) := Lib.hid fun j u hu => by
      have hj : j < n := by have := (List.getElem?_eq_some_iff.1 hu).1; rwa [ints_len, lst_len] at this
      obtain ⟨b, off, e, _, hc⟩ := sv_at0 S (by omega)
      cases e
      rw [Addr.add_lit, hc j hj, ← hu]
      unfold ints lst
      simp [hj]
    clear q h3 S
    have O : Hid ((w.alloc (.cells #[] 3)).ownsRow w.heap.size 3 1 (.slice (some ⟨w.heap.size, 0, none⟩) 0 0) 0 []) := Lib.hid (World.ownsRow_made w #[] 0 (Nat.le_refl _) (by decide) rfl)
    have LN : Hid ((ints (lst n X)).length = n * 1) := Lib.hid (by rw [ints_len, lst_len, Nat.mul_one])
    have ONE : Hid (∀ u ∈ ints (lst n X), u.oneCell' = true) := Lib.hid fun u hu => by
      unfold ints at hu
      obtain ⟨_, _, rfl⟩ := List.mem_map.1 hu
      rfl
    have m1 : Hid (0 + n ≤ maxLen) := Lib.hid (by unfold maxLen; omega)
    have m2 : Hid ((0 + n) * 8 ≤ 140737488355328) := Lib.hid (by omega)
    have hsz : w.heap.size ≤ (w.alloc (.cells #[] 3)).heap.size := by simp
    go_enter Tryd.func29, Tryd.ntmps29
    go_wp2_with (at_builtin; (refine wpList_append_own _ rfl (.tmp 5) (.tmp 6) 22 rfl w.heap.size 3 i0 (.int .i64 0) 1 8 Tryd.underlying22 hi hz0 hz1 hz2 rfl (by decide) (.slice (some ⟨w.heap.size, 0, none⟩) 0 0) 0 [] rfl O.out ad n c _ rfl LN.out S2.out ONE.out m1.out m2.out hsz ?_; intro v' w' ho hg _))
    go_ret
    rw [List.nil_append] at ho
    obtain ⟨o1, o2⟩ := own_rowty ho
    exact ⟨⟨_, rfl, o1, o2⟩, (new_block (w := w) (.cells #[] 3)).grown hg hsz (fun k hk => (O.out.lt k hk).1)⟩
end Det
end Go.Proofs.YtbmcmiggifknfaaDoor
