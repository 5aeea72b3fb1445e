/- slices.Concat of two slices of numbers. -/
import Derived.Test.YtmnafkfjmeoklaaFsA
set_option linter.unusedVariables false
namespace Go.Proofs.Ytmnafkfjmeoklaa
open Go.RowKit Wi Dice
namespace Fil
theorem ints_app (l m : List Int) : ints (l ++ m) = ints l ++ ints m := by simp [ints]
set_option maxRecDepth 100000 in
set_option maxHeartbeats 4000000 in
theorem concat_any {w : World} {g : Nat} {v u : Value} {n k : Nat} {X Y : Nat → Int} (hg : w.heap[g]? = some (.cells #[v, u] 22 (0, 0))) (h : SV w v n X) (hu : SV w u k Y) (hn : n ≤ 400000) (hk : k ≤ 400000) :
    Calls Try.prog 32 #[.slice (some ⟨g, 0, none⟩) 2 2] w fun e w' => (∃ r, e = .returned r ∧ Buf.Own w.heap.size w' r (ints (lst n X ++ lst k Y))) ∧ Below w.heap.size w w' := by
  obtain ⟨i0, hi, hz0, hz1, hz2⟩ := info_parts infoI
  have c0 : w.cell? ⟨g, 0, none⟩ = some v := (cell_of_row w g 0 _ _ _ hg).trans rfl
  have c1 : w.cell? ⟨g, 1, none⟩ = some u := (cell_of_row w g 1 _ _ _ hg).trans rfl
  have H := Lib.hid h
  have U := Lib.hid hu
  obtain ⟨a, c, rfl, _, _, _⟩ := h
  obtain ⟨a', c', rfl, _, _, _⟩ := hu
  have G : Hid (Calls Try.prog 42 #[.slice none 0 0, .int .i64 ((n : Int) + (k : Int))] w fun e w' => (∃ r, e = .returned r ∧ Buf.Own w.heap.size w' r []) ∧ Below w.heap.size w w') := Lib.hid (by
    have := grow_any (n + k) (by omega) w
    rwa [Int.natCast_add] at this)
  have l1 : Hid ((ints []).length + n ≤ maxLen) := Lib.hid (by rw [ints_len]; unfold maxLen; simp; omega)
  have l2 : Hid (((ints []).length + n) * 8 ≤ 140737488355328) := Lib.hid (by rw [ints_len]; simp; omega)
  have l3 : Hid ((ints (lst n X)).length + k ≤ maxLen) := Lib.hid (by rw [ints_len, lst_len]; unfold maxLen; omega)
  have l4 : Hid (((ints (lst n X)).length + k) * 8 ≤ 140737488355328) := Lib.hid (by rw [ints_len, lst_len]; omega)
  have B0 := Lib.hid hg
  clear hg
  go_enter Try.func32, Try.ntmps32
  go_wp2_with fail
  go_loop [3, 11] (fun s i => (i = .int .i64 0 ∧ s = .int .i64 0) ∨ (i = .int .i64 1 ∧ s = .int .i64 n) ∨ (i = .int .i64 2 ∧ s = .int .i64 ((n : Int) + (k : Int)))) (fun _ i => 2 - (intOf i).toNat)
  case atStart => exact .inl ⟨rfl, rfl⟩
  case round =>
    rcases hrel with ⟨rfl, rfl⟩ | ⟨rfl, rfl⟩ | ⟨rfl, rfl⟩
    · go_wp2_with fail
      go_round
      case rel => exact .inr (.inl ⟨rfl, by simp⟩)
      case measure => simp [intOf]
    · go_wp2_with fail
      go_round
      case rel => exact .inr (.inr ⟨rfl, rfl⟩)
      case measure => simp [intOf]
    · go_wp2_with fail
      refine G.out.mono ?_
      rintro e w1 ⟨⟨r1, rfl, ho1⟩, hb1⟩
      have O1 := Lib.hid ho1
      have W1 := Lib.hid hb1
      clear ho1 hb1 G
      go_wp2_with fail
      go_loopw [6, 27] (fun r i wr => ((i = .int .i64 0 ∧ Hid (Buf.Own w.heap.size wr r (ints []))) ∨ (i = .int .i64 1 ∧ Hid (Buf.Own w.heap.size wr r (ints (lst n X)))) ∨ (i = .int .i64 2 ∧ Hid (Buf.Own w.heap.size wr r (ints (lst n X ++ lst k Y))))) ∧ Hid (Below w.heap.size w wr)) (fun _ i _ => 2 - (intOf i).toNat)
      case atStart => exact ⟨.inl ⟨rfl, O1⟩, W1⟩
      case round =>
        obtain ⟨hr, hb⟩ := hrel
        have sz : w.heap.size ≤ wr.heap.size := hb.out.size
        have B1 := Lib.hid ((hb.out.block g (Array.getElem?_eq_some_iff.1 B0.out).1).trans B0.out)
        have d0 := (cell_of_row wr g 0 _ _ _ B1.out).trans rfl
        have d1 := (cell_of_row wr g 1 _ _ _ B1.out).trans rfl
        rcases hr with ⟨rfl, O⟩ | ⟨rfl, O⟩ | ⟨rfl, O⟩
        · have S := Lib.hid (src_sv (H.out.below hb.out))
          go_wp2_with (at_builtin; refine Buf.wpList_append rfl (.tmp 31) (.tmp 32) 22 22 rfl 3 i0 (.int .i64 0) 8 Try.underlying22 hi hz0 hz1 hz2 rfl rfl O.out sz (.slice a n c) n _ rfl S.out l1.out l2.out ?_; intro v' w' ho hgr; have hb' := Lib.hid (Buf.below_grown hb.out O.out sz hgr); replace ho := Lib.hid ho; clear hgr)
          go_roundw
          case rel => exact ⟨.inr (.inl ⟨rfl, ho⟩), hb'⟩
          case measure => simp [intOf]
        · have S := Lib.hid (src_sv (U.out.below hb.out))
          go_wp2_with (at_builtin; refine Buf.wpList_append rfl (.tmp 31) (.tmp 32) 22 22 rfl 3 i0 (.int .i64 0) 8 Try.underlying22 hi hz0 hz1 hz2 rfl rfl O.out sz (.slice a' k c') k _ rfl S.out l3.out l4.out ?_; intro v' w' ho hgr; have hb' := Lib.hid (Buf.below_grown hb.out O.out sz hgr); replace ho := Lib.hid ho; clear hgr)
          go_roundw
          case rel => exact ⟨.inr (.inr ⟨rfl, by rw [ints_app]; exact ho⟩), hb'⟩
          case measure => simp [intOf]
        · go_wp2_with fail
          go_ret
          exact ⟨⟨_, rfl, O.out⟩, hb.out⟩
end Fil
end Go.Proofs.Ytmnafkfjmeoklaa
