/- The comparison of two lists, and the example of the chapter: sane of layer 21. -/
import Derived.Test.YtkoojgmfnelaiaaFilC
set_option linter.unusedVariables false
namespace Go.Proofs.Ytkoojgmfnelaiaa
open Go.RowKit Wi Dice
namespace Fil
theorem same_yes {w : World} {v u : Value} {n : Nat} {X Y : Nat → Int} (h : SV w v n X) (hx : SV w u n Y) (he : ∀ j, j < n → X j = Y j) (hn : n ≤ 1000000) :
    Calls Try.prog 15 #[v, u] w fun e w' => e = .returned (.bool true) ∧ Below w.heap.size w w' := by
  obtain ⟨a, c, rfl, h1, h2, h3⟩ := h
  obtain ⟨a', c', rfl, g1, g2, g3⟩ := hx
  have H3 := Lib.hid h3
  have G3 := Lib.hid g3
  have HE := Lib.hid he
  have enn : ((n : Int) == (n : Int)) = true := by simp
  clear h3 g3 he h2 g2
  go_enter Try.func15, Try.ntmps15
  go_wp2_with fail
  go_loopw [5] (fun i wr => ∃ k : Nat, k ≤ n ∧ i = .int .i64 k ∧ Hid (∃ m, wr = w.drewN m)) (fun i _ => n - (intOf i).toNat)
  case atStart => exact ⟨0, by omega, rfl, Lib.hid ⟨0, rfl⟩⟩
  case round =>
    obtain ⟨k, hk, rfl, hw⟩ := hrel
    obtain ⟨m, rfl⟩ := hw.out
    by_cases hlt : k < n
    · obtain ⟨b, off, rfl, _, hc⟩ := H3.out (by omega)
      obtain ⟨b', off', rfl, _, hc'⟩ := G3.out (by omega)
      have c1 := hc k hlt
      have c2 := hc' k hlt
      have e := HE.out k hlt
      rw [← e] at c2
      clear e
      generalize X k = d at c1 c2
      have edd : (d == d) = true := by simp
      clear hc hc' hw
      go_wp2_with fail
      go_quiet (fail)
      go_wp2_with fail
      exact ⟨⟨k + 1, by omega, by go_num, Lib.hid ⟨_, rfl⟩⟩, by simp [intOf]; omega⟩
    · obtain rfl : k = n := by omega
      clear hw
      go_wp2_with fail
      go_ret
      exact ⟨rfl, Buf.below_drewN (Below.refl _ _) _⟩
theorem sv_lit (w : World) (l : List Int) (t : TypeId) (hl : l.length ≤ maxLen) : SV (w.alloc (.cells (l.map (fun z => Value.int .i64 z)).toArray t)) (.slice (some ⟨w.heap.size, 0, none⟩) l.length l.length) l.length (fn l) :=
  ⟨_, _, rfl, Nat.le_refl _, hl, fun _ => ⟨w.heap.size, 0, rfl, by simp, fun j hj => by rw [Nat.zero_add]; exact ints_alloc w l t j hj⟩⟩
theorem fg11 (f : Int) (f1 : 1 ≤ f) (f2 : f ≤ 64) : FG 2 (fn [1, 1]) f 1 := ⟨by omega, by omega, by omega, f1, f2, by decide⟩
theorem x469 : ∀ j, j < 3 → -1073741823 ≤ fn [4, 6, 9] j ∧ fn [4, 6, 9] j ≤ 1073741823 := by
  intro j hj
  rcases (show j = 0 ∨ j = 1 ∨ j = 2 by omega) with rfl | rfl | rfl <;> decide
theorem sv_far {w : World} {g o n c b : Nat} {X : Nat → Int} (h : SV w (.slice (some ⟨g, o, none⟩) n c) n X) (hne : b ≠ g) (k : Nat) (u : Value) : SV (w.setCell ⟨b, k, none⟩ u) (.slice (some ⟨g, o, none⟩) n c) n X := by
  obtain ⟨a, c', e, h1, h2, h3⟩ := h
  injection e with e1 e2 e3
  subst e1 e3
  refine ⟨_, _, rfl, h1, h2, fun hn => ?_⟩
  obtain ⟨b', off, e', hlt, hc⟩ := h3 hn
  injection e' with e'
  injection e' with e1 e2
  subst e1 e2
  exact ⟨_, _, rfl, by simpa [World.setCell] using hlt, fun j hj => (World.cell?_setCell_far _ _ _ _ hne).trans (hc j hj)⟩
theorem set1 {w : World} {g : Nat} {x y z : Value} {t : TypeId} (h : w.heap[g]? = some (.cells #[x, y, z] t (0, 0))) (u : Value) : (w.setCell ⟨g, 1, none⟩ u).heap[g]? = some (.cells #[x, u, z] t (0, 0)) := (heap_setCell_same w g 1 _ _ u h).trans rfl
set_option maxHeartbeats 2000000 in
set_option maxRecDepth 100000 in
theorem sane_any (w : World) : Calls Try.prog 8 #[] w fun e w' => e = .returned (.bool true) ∧ Below w.heap.size w w' := by
  have S0 := Lib.hid (sv_lit w [1, 1] 3 (by decide))
  go_enter Try.func8, Try.ntmps8
  have W0 := Lib.hid (new_block (w := w) (.cells #[.int .i64 1, .int .i64 1] 3))
  go_wp2_with fail
  have hA : Hid ((w.alloc (.cells #[.int .i64 1, .int .i64 1] 3)).heap.size = w.heap.size + 1) := Lib.hid (by simp)
  generalize hwA : w.alloc (.cells #[.int .i64 1, .int .i64 1] 3) = wA at *
  have S0' : SV wA (.slice (some ⟨w.heap.size, 0, none⟩) 2 2) 2 (fn [1, 1]) := by rw [← hwA]; exact S0.out
  have eA := hA.out
  have T0 := heap_alloc_new wA (.cells #[.slice (some ⟨w.heap.size, 0, none⟩) 2 2, .int .i64 1, .int .i64 1] 33)
  have hB : (wA.alloc (.cells #[.slice (some ⟨w.heap.size, 0, none⟩) 2 2, .int .i64 1, .int .i64 1] 33)).heap.size = w.heap.size + 1 + 1 := by simp [eA]
  have W1 := (W0.out).alloc (W0.out).size (.cells #[.slice (some ⟨w.heap.size, 0, none⟩) 2 2, .int .i64 1, .int .i64 1] 33)
  have S1 := S0'.below (new_block (.cells #[.slice (some ⟨w.heap.size, 0, none⟩) 2 2, .int .i64 1, .int .i64 1] 33))
  rw [eA] at T0
  generalize wA.alloc (.cells #[.slice (some ⟨w.heap.size, 0, none⟩) 2 2, .int .i64 1, .int .i64 1] 33) = wB at *
  have X0 := sv_lit wB [4, 6, 9] 3 (by decide)
  rw [hB] at X0
  refine (apply_any 0 (S1.below (new_block _)) X0 (fg11 1 (by decide) (by decide)) (by decide) x469 (by decide) (by decide)).mono ?_
  rintro e w1 ⟨⟨r, rfl, ho⟩, hb⟩
  rw [show outs (fn [1, 1]) (fn [4, 6, 9]) 2 1 1 0 [(4 : Int), 6, 9].length = [5, 7] by decide] at ho
  have S2 := Lib.hid ((S1.below (new_block _)).below hb)
  have T1 := Lib.hid (box3 (box3 T0 (new_block _)) hb)
  have R1 := Lib.hid (ho.mono (show w.heap.size + 1 + 1 ≤ _ by simp [hB]))
  have W2 := Lib.hid (Buf.then_ (Buf.then_ W1 (new_block _)) hb)
  obtain ⟨c0, c1, c2⟩ := cells3 T1.out
  have fz := frozen_of_row w1 (w.heap.size + 1) 1 _ _ T1.out
  clear hb ho X0 S1 W1 T0 S0' S0 W0 hA hwA eA hB
  go_wp2_with fail
  have hle : w.heap.size ≤ w.heap.size + 1 := by omega
  have S3 := sv_far S2.out (show w.heap.size + 1 ≠ w.heap.size by omega) 1 (.int .i64 2)
  have T3 := set1 T1.out (.int .i64 2)
  have R3 := own_far R1.out (show w.heap.size + 1 < w.heap.size + 1 + 1 by omega) 1 (.int .i64 2)
  have W3 := W2.out.setCell (p := ⟨w.heap.size + 1, 1, none⟩) hle (.int .i64 2)
  have hs : (w1.setCell ⟨w.heap.size + 1, 1, none⟩ (.int .i64 2)).heap.size = w1.heap.size := by simp [World.setCell]
  generalize w1.setCell ⟨w.heap.size + 1, 1, none⟩ (.int .i64 2) = w3 at *
  have X0 := sv_lit w3 [4, 6, 9] 3 (by decide)
  rw [hs] at X0
  refine (apply_any 10 (S3.below (new_block _)) X0 (fg11 2 (by decide) (by decide)) (by decide) x469 (by decide) (by decide)).mono ?_
  rintro e w4 ⟨⟨r4, rfl, ho⟩, hb⟩
  rw [show outs (fn [1, 1]) (fn [4, 6, 9]) 2 1 2 10 [(4 : Int), 6, 9].length = [7] by decide] at ho
  have S4 := Lib.hid ((S3.below (new_block _)).below hb)
  have T4 := Lib.hid (box3 (box3 T3 (new_block _)) hb)
  have R4 := Lib.hid ((R3.below (new_block _)).below hb)
  have P4 := Lib.hid ho
  have W4 := Lib.hid (Buf.then_ (Buf.then_ W3 (new_block _)) hb)
  clear hb ho X0 S3 T3 R3 W3 S2 T1 R1 W2 c0 c1 c2 fz hle hs
  go_wp2_with fail
  have Y1 := sv_lit w4 [5, 7] 3 (by decide)
  refine (same_yes (sv_own (R4.out.below (new_block _))) Y1 (fun j hj => rfl) (by decide)).mono ?_
  rintro e w5 ⟨rfl, hb⟩
  have S5 := Lib.hid ((S4.out.below (new_block _)).below hb)
  have T5 := Lib.hid (box3 (box3 T4.out (new_block _)) hb)
  have P5 := Lib.hid ((P4.out.below (new_block _)).below hb)
  have W5 := Lib.hid (Buf.then_ (Buf.then_ W4.out (new_block _)) hb)
  clear hb Y1 S4 T4 P4 W4 R4
  go_wp2_with fail
  have Y1 := sv_lit w5 [7] 3 (by decide)
  refine (same_yes (sv_own (P5.out.below (new_block _))) Y1 (fun j hj => rfl) (by decide)).mono ?_
  rintro e w6 ⟨rfl, hb⟩
  have S6 := Lib.hid ((S5.out.below (new_block _)).below hb)
  have T6 := Lib.hid (box3 (box3 T5.out (new_block _)) hb)
  have W6 := Lib.hid (Buf.then_ (Buf.then_ W5.out (new_block _)) hb)
  obtain ⟨d0, d1, d2⟩ := cells3 T6.out
  clear hb Y1 S5 T5 P5 W5
  go_wp2_with fail
  refine (valid_yes (s := 1) S6.out (fg11 2 (by decide) (by decide))).mono ?_
  rintro e w7 ⟨rfl, hb⟩
  clear d0 d1 d2
  go_wp2_with fail
  go_ret
  exact ⟨rfl, Buf.then_ W6.out hb⟩
end Fil
end Go.Proofs.Ytkoojgmfnelaiaa
