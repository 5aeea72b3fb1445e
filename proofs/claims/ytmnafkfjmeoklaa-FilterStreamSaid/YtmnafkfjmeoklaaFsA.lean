/- The outputs of parts; slices.Clone of any slice, slices.Grow of nil, slices.Concat of two. -/
import Derived.Test.YtmnafkfjmeoklaaFilS
import Derived.Test.YtmnafkfjmeoklaaFilD
import Derived.Lib.SliceRun
import Derived.Lib.AppendZeros
set_option linter.unusedVariables false
namespace Go.Proofs.Ytmnafkfjmeoklaa
open Go.RowKit Wi Dice
namespace Fil
theorem outs_cut (T X : Nat → Int) (n s : Nat) (fac N0 : Int) (c : Nat) : ∀ k, n - 1 ≤ k → outs T X n s fac N0 (c + k) = outs T X n s fac N0 (c + (n - 1)) ++ outs T (fun j => X (c + j)) n s fac (N0 + c) k := by
  intro k hk
  obtain ⟨d, rfl⟩ := Nat.exists_eq_add_of_le hk
  clear hk
  induction d with
  | zero => rw [outs_zero T (fun j => X (c + j)) n s fac (N0 + c) (n - 1 + 0) (by omega)]; simp
  | succ d ih =>
    have e1 : c + (n - 1 + (d + 1)) = c + (n - 1 + d) + 1 := by omega
    have e2 : n - 1 + (d + 1) = n - 1 + d + 1 := by omega
    have hd : dot T X (c + (n - 1 + d)) n = dot T (fun j => X (c + j)) (n - 1 + d) n := dot_congr T T X (fun j => X (c + j)) _ _ n fun j hj => ⟨rfl, by show X _ = X _; congr 1; omega⟩
    have em : N0 + ((c + (n - 1 + d) : Nat) : Int) = N0 + c + ((n - 1 + d : Nat) : Int) := by push_cast; omega
    rw [e1, e2]
    by_cases hm : (N0 + ((c + (n - 1 + d) : Nat) : Int)) % fac = 0
    · rw [outs_yes T X n s fac N0 _ (by omega) hm, outs_yes T _ n s fac (N0 + c) _ (by omega) (by rw [← em]; exact hm), ih, hd, List.append_assoc]
    · rw [outs_no T X n s fac N0 _ hm, outs_no T _ n s fac (N0 + c) _ (by rw [← em]; exact hm), ih]
/-- How many of the last samples a feed keeps. -/
def kept (n p : Nat) : Nat := min p (n - 1)
theorem outs_more (T X : Nat → Int) (n s : Nat) (fac N0 : Int) (p q : Nat) (h : p ≤ q) :
    outs T X n s fac N0 p ++ outs T (fun j => X (p - kept n p + j)) n s fac (N0 + ((p - kept n p : Nat) : Int)) (q - (p - kept n p)) = outs T X n s fac N0 q := by
  unfold kept
  by_cases hp : p ≤ n - 1
  · rw [outs_zero T X n s fac N0 p hp]
    have : p - min p (n - 1) = 0 := by omega
    rw [this]; simp
  · have e : p - min p (n - 1) = p - (n - 1) := by omega
    rw [e]
    have h1 := outs_cut T X n s fac N0 (p - (n - 1)) (q - (p - (n - 1))) (by omega)
    rw [show p - (n - 1) + (q - (p - (n - 1))) = q by omega, show p - (n - 1) + (n - 1) = p by omega] at h1
    exact h1.symm
def lst (n : Nat) (X : Nat → Int) : List Int := (List.range n).map X
theorem lst_len (n : Nat) (X : Nat → Int) : (lst n X).length = n := by simp [lst]
theorem fn_lst (n : Nat) (X : Nat → Int) (j : Nat) (hj : j < n) : fn (lst n X) j = X j := by
  simp [fn, lst, List.getD_eq_getElem?_getD, hj]
theorem sv_congr {w : World} {v : Value} {n : Nat} {X Y : Nat → Int} (h : SV w v n X) (he : ∀ j, j < n → X j = Y j) : SV w v n Y := by
  obtain ⟨a, c, e, h1, h2, h3⟩ := h
  refine ⟨a, c, e, h1, h2, fun h0 => ?_⟩
  obtain ⟨b, off, e1, e2, e3⟩ := h3 h0
  exact ⟨b, off, e1, e2, fun j hj => by rw [← he j hj]; exact e3 j hj⟩
theorem sv_of_own {B : Nat} {w : World} {v : Value} {n : Nat} {X : Nat → Int} (h : Buf.Own B w v (ints (lst n X))) : SV w v n X := by
  have := sv_own h
  rw [lst_len] at this
  exact sv_congr this (fun j hj => fn_lst n X j hj)
/-- What an append takes from such a slice. -/
theorem src_sv {w : World} {v : Value} {n : Nat} {X : Nat → Int} (h : SV w v n X) : Src Try.prog 1 22 v n (ints (lst n X)) w := by
  obtain ⟨a, c, rfl, h1, h2, h3⟩ := h
  cases a with
  | none =>
    have h0 : n = 0 := by
      rcases Nat.eq_zero_or_pos n with h0 | h0
      · exact h0
      · obtain ⟨b, off, e, _⟩ := h3 h0; cases e
    subst h0
    exact Src.ofNil _ (e' := 3) rfl c
  | some ad =>
    refine Src.ofSlice _ (e' := 3) rfl ad n c _ (by rw [ints_len, lst_len, Nat.mul_one]) (fun j u hu => ?_) (fun u hu => ?_)
    · have hj : j < n := by have := (List.getElem?_eq_some_iff.1 hu).1; rwa [ints_len, lst_len] at this
      obtain ⟨b, off, e, _, hc⟩ := h3 (by omega)
      cases e
      rw [Addr.add_lit, hc j hj, ← hu]
      simp [ints, lst, hj]
    · simp [ints] at hu; obtain ⟨z, _, rfl⟩ := hu; rfl
set_option maxRecDepth 100000 in
set_option maxHeartbeats 2000000 in
theorem clone_sv {w : World} {v : Value} {n : Nat} {X : Nat → Int} (h : SV w v n X) (h9 : n ≤ 1000000) :
    Calls Try.prog 26 #[v] w fun e w' => (∃ r, e = .returned r ∧ Buf.Own w.heap.size w' r (ints (lst n X))) ∧ Below w.heap.size w w' := by
  obtain ⟨i0, hi, hz0, hz1, hz2⟩ := info_parts infoI
  have S := Lib.hid (src_sv (h.below (new_block (w := w) (.cells #[] 3))))
  obtain ⟨a, c, rfl, h1, h2, h3⟩ := h
  have q := fun (w : World) => Lib.run_eql_slice_nil (P := Try.prog) w 22 3 a n c 0 0 rfl
  cases a with
  | none =>
    have h0 : n = 0 := by
      rcases Nat.eq_zero_or_pos n with h0 | h0
      · exact h0
      · obtain ⟨b, off, e, _⟩ := h3 h0; cases e
    subst h0
    clear h3 S
    have q' : ∀ w : World, (binOp .eql 22 (.slice none 0 c) (.slice none 0 0)).run Try.prog w = .ok (.bool true) w := q
    clear q
    go_enter Try.func26, Try.ntmps26
    go_wp2_with fail
    go_ret
    exact ⟨⟨_, rfl, Buf.Own.nil _ _⟩, Below.refl _ _⟩
  | some ad =>
    have q' : ∀ w : World, (binOp .eql 22 (.slice (some ad) n c) (.slice none 0 0)).run Try.prog w = .ok (.bool false) w := q
    clear q h3
    have O : Hid (Buf.Own w.heap.size (w.alloc (.cells #[] 3)) (.slice (some ⟨w.heap.size, 0, none⟩) 0 0) []) := Lib.hid (Buf.own_lit w 3 [] (by decide))
    have m1 : Hid (([] : List Value).length + n ≤ maxLen) := Lib.hid (by unfold maxLen; simp; omega)
    have m2 : Hid ((([] : List Value).length + n) * 8 ≤ 140737488355328) := Lib.hid (by simp; omega)
    have hsz : w.heap.size ≤ (w.alloc (.cells #[] 3)).heap.size := by simp
    go_enter Try.func26, Try.ntmps26
    go_wp2_with (at_builtin; (refine Buf.wpList_append rfl (.tmp 5) (.tmp 6) 22 22 rfl 3 i0 (.int .i64 0) 8 Try.underlying22 hi hz0 hz1 hz2 rfl rfl O.out hsz (.slice (some ad) n c) n _ rfl S.out m1.out m2.out ?_; intro v' w' ho hg))
    go_ret
    have hb := Buf.below_grown (new_block (w := w) (.cells #[] 3)) O.out hsz hg
    exact ⟨⟨_, rfl, ho⟩, hb⟩
set_option maxRecDepth 100000 in
set_option maxHeartbeats 2000000 in
/-- slices.Grow of nil. -/
theorem grow_any (k : Nat) (h9 : k ≤ 1000000) (w : World) :
    Calls Try.prog 42 #[.slice none 0 0, .int .i64 k] w fun e w' => (∃ r, e = .returned r ∧ Buf.Own w.heap.size w' r []) ∧ Below w.heap.size w w' := by
  obtain ⟨i0, hi, hz0, hz1, hz2⟩ := info_parts infoI
  by_cases h0 : k = 0
  · subst h0
    go_enter Try.func42, Try.ntmps42
    go_wp2_with fail
    go_ret
    exact ⟨⟨_, rfl, Buf.Own.nil _ _⟩, Below.refl _ _⟩
  · have hr := fun ty => Lib.run_append_nil_zeros (P := Try.prog) w 22 3 ty 3 i0 (.int .i64 0) .i64 .i64 rfl rfl hi hz0 k (by omega) (by omega) (by omega) (by rw [hz2]; omega)
    have hge := grownCap_ge w k 0 3
    have hle := grownCap_le_maxLen w k 0 3 (by unfold maxLen; omega)
    have hcells := World.cell?_alloc_mark w.drew (Builtin.zeroCells (Value.int .i64 0).cells k ++ Builtin.zeroCells (Value.int .i64 0).cells (grownCap w k 0 3 - k)) 3 (0, 0)
    have hfree := World.frozen?_alloc_mark w.drew (Builtin.zeroCells (Value.int .i64 0).cells k ++ Builtin.zeroCells (Value.int .i64 0).cells (grownCap w k 0 3 - k)) 3 0 0
    have hO : Buf.Own w.heap.size (w.drew.alloc (.cells (Builtin.zeroCells (Value.int .i64 0).cells k ++ Builtin.zeroCells (Value.int .i64 0).cells (grownCap w k 0 3 - k)) 3)) (.slice (some ⟨w.heap.size, 0, none⟩) 0 (grownCap w k 0 3)) [] := by
      have hs : (Builtin.zeroCells (Value.int .i64 0).cells k ++ Builtin.zeroCells (Value.int .i64 0).cells (grownCap w k 0 3 - k)).size = grownCap w k 0 3 := by
        simp only [Array.size_append, size_zeroCells, show (Value.int .i64 0).cells.size = 1 from rfl]; omega
      refine .inr ⟨w.heap.size, _, rfl, Nat.le_refl _, by simp, rfl, Nat.zero_le _, hle, fun j hj => by simp at hj, fun j hj => ?_, fun j _ => (hfree j).trans (by simp)⟩
      refine (congrArg Option.isSome (hcells j)).trans ?_
      rw [Array.getElem?_eq_getElem (by omega)]; rfl
    have hB : Below w.heap.size w (w.drew.alloc (.cells (Builtin.zeroCells (Value.int .i64 0).cells k ++ Builtin.zeroCells (Value.int .i64 0).cells (grownCap w k 0 3 - k)) 3)) := (Below.refl _ w).drew.alloc (Nat.le_refl _) _
    replace hr := Lib.hid hr
    clear hcells hfree
    generalize Builtin.zeroCells (Value.int .i64 0).cells k ++ Builtin.zeroCells (Value.int .i64 0).cells (grownCap w k 0 3 - k) = Z at *
    generalize grownCap w k 0 3 = G at *
    replace hO := Lib.hid hO
    replace hB := Lib.hid hB
    go_enter Try.func42, Try.ntmps42
    go_wp2_with (at_builtin; refine Lib.wpList_append_run w rfl (.tmp 20) (.tmp 21) 22 3 rfl (.slice none 0 0) (.int .i64 k) rfl rfl _ _ (hr.out _) ?_)
    go_ret
    exact ⟨⟨_, rfl, hO.out⟩, hB.out⟩
end Fil
end Go.Proofs.Ytmnafkfjmeoklaa
