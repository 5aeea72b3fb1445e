/- Rows of ints: clone, grow, concat (FsA's and FsB's, beside the detector). -/
import Derived.Test.YtbmcmiggifknfaaDoorDetQ
import Derived.Test.YtbmcmiggifknfaaDoorDetO
import Derived.Lib.SliceRun
import Derived.Lib.AppendZeros
set_option linter.unusedVariables false
set_option linter.unusedSimpArgs false
namespace Go.Proofs.YtbmcmiggifknfaaDoor
open Go.RowKit Wi Dice
namespace Det
def lst (n : Nat) (X : Nat → Int) : List Int := (List.range n).map X
theorem lst_len (n : Nat) (X : Nat → Int) : (lst n X).length = n := by simp [lst]
theorem fn_lst (n : Nat) (X : Nat → Int) (j : Nat) (hj : j < n) : fn (lst n X) j = X j := by
  simp [fn, lst, List.getD_eq_getElem?_getD, hj]
theorem sv_congr {w : World} {v : Value} {n : Nat} {X Y : Nat → Int} (h : SV w v n X) (he : ∀ j, j < n → X j = Y j) : SV w v n Y := by
  obtain ⟨a, c, e, h1, h2, h3⟩ := h
  refine ⟨a, c, e, h1, h2, fun h0 => ?_⟩
  obtain ⟨b, off, e1, e2, e3⟩ := h3 h0
  exact ⟨b, off, e1, e2, fun j hj => by rw [← he j hj]; exact e3 j hj⟩
theorem sv_of_own {B : Nat} {w : World} {v : Value} {n : Nat} {X : Nat → Int} (h : Buf.Own B w v (ints (lst n X))) : SV w v n X := by
  have := sv_own h
  rw [lst_len] at this
  exact sv_congr this (fun j hj => fn_lst n X j hj)
/-- What an append takes from such a slice. -/
theorem src_sv {w : World} {v : Value} {n : Nat} {X : Nat → Int} (h : SV w v n X) : Src Tryd.prog 1 22 v n (ints (lst n X)) w := by
  obtain ⟨a, c, rfl, h1, h2, h3⟩ := h
  cases a with
  | none =>
    have h0 : n = 0 := by
      rcases Nat.eq_zero_or_pos n with h0 | h0
      · exact h0
      · obtain ⟨b, off, e, _⟩ := h3 h0; cases e
    subst h0
    exact Src.ofNil _ (e' := 3) rfl c
  | some ad =>
    refine Src.ofSlice _ (e' := 3) rfl ad n c _ (by rw [ints_len, lst_len, Nat.mul_one]) (fun j u hu => ?_) (fun u hu => ?_)
    · have hj : j < n := by have := (List.getElem?_eq_some_iff.1 hu).1; rwa [ints_len, lst_len] at this
      obtain ⟨b, off, e, _, hc⟩ := h3 (by omega)
      cases e
      rw [Addr.add_lit, hc j hj, ← hu]
      simp [ints, lst, hj]
    · simp [ints] at hu; obtain ⟨z, _, rfl⟩ := hu; rfl
set_option maxRecDepth 100000 in
set_option maxHeartbeats 2000000 in
theorem clone_sv {w : World} {v : Value} {n : Nat} {X : Nat → Int} (h : SV w v n X) (h9 : n ≤ 1000000) :
    Calls Tryd.prog 29 #[v] w fun e w' => (∃ r, e = .returned r ∧ Buf.Own w.heap.size w' r (ints (lst n X))) ∧ Below w.heap.size w w' := by
  obtain ⟨i0, hi, hz0, hz1, hz2⟩ := info_parts infoI
  have S := Lib.hid (src_sv (h.below (new_block (w := w) (.cells #[] 3))))
  obtain ⟨a, c, rfl, h1, h2, h3⟩ := h
  have q := fun (w : World) => Lib.run_eql_slice_nil (P := Tryd.prog) w 22 3 a n c 0 0 rfl
  cases a with
  | none =>
    have h0 : n = 0 := by
      rcases Nat.eq_zero_or_pos n with h0 | h0
      · exact h0
      · obtain ⟨b, off, e, _⟩ := h3 h0; cases e
    subst h0
    clear h3 S
    have q' : ∀ w : World, (binOp .eql 22 (.slice none 0 c) (.slice none 0 0)).run Tryd.prog w = .ok (.bool true) w := q
    clear q
    go_enter Tryd.func29, Tryd.ntmps29
    go_wp2_with fail
    go_ret
    exact ⟨⟨_, rfl, Buf.Own.nil _ _⟩, Below.refl _ _⟩
  | some ad =>
    have q' : ∀ w : World, (binOp .eql 22 (.slice (some ad) n c) (.slice none 0 0)).run Tryd.prog w = .ok (.bool false) w := q
    clear q h3
    have O : Hid (Buf.Own w.heap.size (w.alloc (.cells #[] 3)) (.slice (some ⟨w.heap.size, 0, none⟩) 0 0) []) := Lib.hid (Buf.own_lit w 3 [] (by decide))
    have m1 : Hid (([] : List Value).length + n ≤ maxLen) := Lib.hid (by unfold maxLen; simp; omega)
    have m2 : Hid ((([] : List Value).length + n) * 8 ≤ 140737488355328) := Lib.hid (by simp; omega)
    have hsz : w.heap.size ≤ (w.alloc (.cells #[] 3)).heap.size := by simp
    go_enter Tryd.func29, Tryd.ntmps29
    go_wp2_with (at_builtin; (refine Buf.wpList_append rfl (.tmp 5) (.tmp 6) 22 22 rfl 3 i0 (.int .i64 0) 8 Tryd.underlying22 hi hz0 hz1 hz2 rfl rfl O.out hsz (.slice (some ad) n c) n _ rfl S.out m1.out m2.out ?_; intro v' w' ho hg))
    go_ret
    have hb := Buf.below_grown (new_block (w := w) (.cells #[] 3)) O.out hsz hg
    exact ⟨⟨_, rfl, ho⟩, hb⟩
set_option maxRecDepth 100000 in
set_option maxHeartbeats 2000000 in
/-- slices.Grow of nil. -/
theorem grow_any (k : Nat) (h9 : k ≤ 1000000) (w : World) :
    Calls Tryd.prog 35 #[.slice none 0 0, .int .i64 k] w fun e w' => (∃ r, e = .returned r ∧ Buf.Own w.heap.size w' r []) ∧ Below w.heap.size w w' := by
  obtain ⟨i0, hi, hz0, hz1, hz2⟩ := info_parts infoI
  by_cases h0 : k = 0
  · subst h0
    go_enter Tryd.func35, Tryd.ntmps35
    go_wp2_with fail
    go_ret
    exact ⟨⟨_, rfl, Buf.Own.nil _ _⟩, Below.refl _ _⟩
  · have hr := fun ty => Lib.run_append_nil_zeros (P := Tryd.prog) w 22 3 ty 3 i0 (.int .i64 0) .i64 .i64 rfl rfl hi hz0 k (by omega) (by omega) (by omega) (by rw [hz2]; omega)
    have hge := grownCap_ge w k 0 3
    have hle := grownCap_le_maxLen w k 0 3 (by unfold maxLen; omega)
    have hcells := World.cell?_alloc_mark w.drew (Builtin.zeroCells (Value.int .i64 0).cells k ++ Builtin.zeroCells (Value.int .i64 0).cells (grownCap w k 0 3 - k)) 3 (0, 0)
    have hfree := World.frozen?_alloc_mark w.drew (Builtin.zeroCells (Value.int .i64 0).cells k ++ Builtin.zeroCells (Value.int .i64 0).cells (grownCap w k 0 3 - k)) 3 0 0
    have hO : Buf.Own w.heap.size (w.drew.alloc (.cells (Builtin.zeroCells (Value.int .i64 0).cells k ++ Builtin.zeroCells (Value.int .i64 0).cells (grownCap w k 0 3 - k)) 3)) (.slice (some ⟨w.heap.size, 0, none⟩) 0 (grownCap w k 0 3)) [] := by
      have hs : (Builtin.zeroCells (Value.int .i64 0).cells k ++ Builtin.zeroCells (Value.int .i64 0).cells (grownCap w k 0 3 - k)).size = grownCap w k 0 3 := by
        simp only [Array.size_append, size_zeroCells, show (Value.int .i64 0).cells.size = 1 from rfl]; omega
      refine .inr ⟨w.heap.size, _, rfl, Nat.le_refl _, by simp, rfl, Nat.zero_le _, hle, fun j hj => by simp at hj, fun j hj => ?_, fun j _ => (hfree j).trans (by simp)⟩
      refine (congrArg Option.isSome (hcells j)).trans ?_
      rw [Array.getElem?_eq_getElem (by omega)]; rfl
    have hB : Below w.heap.size w (w.drew.alloc (.cells (Builtin.zeroCells (Value.int .i64 0).cells k ++ Builtin.zeroCells (Value.int .i64 0).cells (grownCap w k 0 3 - k)) 3)) := (Below.refl _ w).drew.alloc (Nat.le_refl _) _
    replace hr := Lib.hid hr
    clear hcells hfree
    generalize Builtin.zeroCells (Value.int .i64 0).cells k ++ Builtin.zeroCells (Value.int .i64 0).cells (grownCap w k 0 3 - k) = Z at *
    generalize grownCap w k 0 3 = G at *
    replace hO := Lib.hid hO
    replace hB := Lib.hid hB
    go_enter Tryd.func35, Tryd.ntmps35
    go_wp2_with (at_builtin; refine Lib.wpList_append_run w rfl (.tmp 20) (.tmp 21) 22 3 rfl (.slice none 0 0) (.int .i64 k) rfl rfl _ _ (hr.out _) ?_)
    go_ret
    exact ⟨⟨_, rfl, hO.out⟩, hB.out⟩
theorem ints_app (l m : List Int) : ints (l ++ m) = ints l ++ ints m := by simp [ints]
set_option maxRecDepth 100000 in
set_option maxHeartbeats 4000000 in
theorem concat_any {w : World} {g : Nat} {v u : Value} {n k : Nat} {X Y : Nat → Int} (hg : w.heap[g]? = some (.cells #[v, u] 22 (0, 0))) (h : SV w v n X) (hu : SV w u k Y) (hn : n ≤ 400000) (hk : k ≤ 400000) :
    Calls Tryd.prog 26 #[.slice (some ⟨g, 0, none⟩) 2 2] w fun e w' => (∃ r, e = .returned r ∧ Buf.Own w.heap.size w' r (ints (lst n X ++ lst k Y))) ∧ Below w.heap.size w w' := by
  obtain ⟨i0, hi, hz0, hz1, hz2⟩ := info_parts infoI
  have c0 : w.cell? ⟨g, 0, none⟩ = some v := (cell_of_row w g 0 _ _ _ hg).trans rfl
  have c1 : w.cell? ⟨g, 1, none⟩ = some u := (cell_of_row w g 1 _ _ _ hg).trans rfl
  have H := Lib.hid h
  have U := Lib.hid hu
  obtain ⟨a, c, rfl, _, _, _⟩ := h
  obtain ⟨a', c', rfl, _, _, _⟩ := hu
  have G : Hid (Calls Tryd.prog 35 #[.slice none 0 0, .int .i64 ((n : Int) + (k : Int))] w fun e w' => (∃ r, e = .returned r ∧ Buf.Own w.heap.size w' r []) ∧ Below w.heap.size w w') := Lib.hid (by
    have := grow_any (n + k) (by omega) w
    rwa [Int.natCast_add] at this)
  have l1 : Hid ((ints []).length + n ≤ maxLen) := Lib.hid (by rw [ints_len]; unfold maxLen; simp; omega)
  have l2 : Hid (((ints []).length + n) * 8 ≤ 140737488355328) := Lib.hid (by rw [ints_len]; simp; omega)
  have l3 : Hid ((ints (lst n X)).length + k ≤ maxLen) := Lib.hid (by rw [ints_len, lst_len]; unfold maxLen; omega)
  have l4 : Hid (((ints (lst n X)).length + k) * 8 ≤ 140737488355328) := Lib.hid (by rw [ints_len, lst_len]; omega)
  have B0 := Lib.hid hg
  clear hg
  go_enter Tryd.func26, Tryd.ntmps26
  go_wp2_with fail
  go_loop [3, 11] (fun s i => (i = .int .i64 0 ∧ s = .int .i64 0) ∨ (i = .int .i64 1 ∧ s = .int .i64 n) ∨ (i = .int .i64 2 ∧ s = .int .i64 ((n : Int) + (k : Int)))) (fun _ i => 2 - (intOf i).toNat)
  case atStart => exact .inl ⟨rfl, rfl⟩
  case round =>
    rcases hrel with ⟨rfl, rfl⟩ | ⟨rfl, rfl⟩ | ⟨rfl, rfl⟩
    · go_wp2_with fail
      go_round
      case rel => exact .inr (.inl ⟨rfl, by simp⟩)
      case measure => simp [intOf]
    · go_wp2_with fail
      go_round
      case rel => exact .inr (.inr ⟨rfl, rfl⟩)
      case measure => simp [intOf]
    · go_wp2_with fail
      refine G.out.mono ?_
      rintro e w1 ⟨⟨r1, rfl, ho1⟩, hb1⟩
      have O1 := Lib.hid ho1
      have W1 := Lib.hid hb1
      clear ho1 hb1 G
      go_wp2_with fail
      go_loopw [6, 27] (fun r i wr => ((i = .int .i64 0 ∧ Hid (Buf.Own w.heap.size wr r (ints []))) ∨ (i = .int .i64 1 ∧ Hid (Buf.Own w.heap.size wr r (ints (lst n X)))) ∨ (i = .int .i64 2 ∧ Hid (Buf.Own w.heap.size wr r (ints (lst n X ++ lst k Y))))) ∧ Hid (Below w.heap.size w wr)) (fun _ i _ => 2 - (intOf i).toNat)
      case atStart => exact ⟨.inl ⟨rfl, O1⟩, W1⟩
      case round =>
        obtain ⟨hr, hb⟩ := hrel
        have sz : w.heap.size ≤ wr.heap.size := hb.out.size
        have B1 := Lib.hid ((hb.out.block g (Array.getElem?_eq_some_iff.1 B0.out).1).trans B0.out)
        have d0 := (cell_of_row wr g 0 _ _ _ B1.out).trans rfl
        have d1 := (cell_of_row wr g 1 _ _ _ B1.out).trans rfl
        rcases hr with ⟨rfl, O⟩ | ⟨rfl, O⟩ | ⟨rfl, O⟩
        · have S := Lib.hid (src_sv (H.out.below hb.out))
          go_wp2_with (at_builtin; refine Buf.wpList_append rfl (.tmp 31) (.tmp 32) 22 22 rfl 3 i0 (.int .i64 0) 8 Tryd.underlying22 hi hz0 hz1 hz2 rfl rfl O.out sz (.slice a n c) n _ rfl S.out l1.out l2.out ?_; intro v' w' ho hgr; have hb' := Lib.hid (Buf.below_grown hb.out O.out sz hgr); replace ho := Lib.hid ho; clear hgr)
          go_roundw
          case rel => exact ⟨.inr (.inl ⟨rfl, ho⟩), hb'⟩
          case measure => simp [intOf]
        · have S := Lib.hid (src_sv (U.out.below hb.out))
          go_wp2_with (at_builtin; refine Buf.wpList_append rfl (.tmp 31) (.tmp 32) 22 22 rfl 3 i0 (.int .i64 0) 8 Tryd.underlying22 hi hz0 hz1 hz2 rfl rfl O.out sz (.slice a' k c') k _ rfl S.out l3.out l4.out ?_; intro v' w' ho hgr; have hb' := Lib.hid (Buf.below_grown hb.out O.out sz hgr); replace ho := Lib.hid ho; clear hgr)
          go_roundw
          case rel => exact ⟨.inr (.inr ⟨rfl, by rw [ints_app]; exact ho⟩), hb'⟩
          case measure => simp [intOf]
        · go_wp2_with fail
          go_ret
          exact ⟨⟨_, rfl, O.out⟩, hb.out⟩
end Det
end Go.Proofs.YtbmcmiggifknfaaDoor
