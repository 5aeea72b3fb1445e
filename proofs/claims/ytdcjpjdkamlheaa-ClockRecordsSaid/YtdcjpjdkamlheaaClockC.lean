/- Contracts of package clock at the examples of the chapter: Correct. -/
import Derived.Test.YtdcjpjdkamlheaaClockB
namespace Go.Proofs.Ytdcjpjdkamlheaa
open Go.RowKit Wi Dice
namespace Clock
theorem runOf1 (g : Nat) (w : World) :
    Calls Try.prog 39 #[.slice (some ⟨g, 0, none⟩) 1 1, .slice none 0 0, .int .i64 1100] w fun e w' => e = .returned (.tuple #[.int .i64 0, .int .i64 1]) ∧ w' = w := by
  go_enter Try.func39, Try.ntmps39
  go_wp2
  go_loop [6, 7, 14] (fun u v i => u = .int .i64 0 ∧ v = .int .i64 1 ∧ i = .int .i64 0) (fun _ _ _ => 0)
  case atStart => exact ⟨rfl, rfl, rfl⟩
  case round =>
    obtain ⟨rfl, rfl, rfl⟩ := hrel
    go_wp2
    go_ret2
    exact ⟨rfl, rfl⟩
theorem runOf2 (g p c : Nat) (w : World) (b : An w g 3 1000 5000 5000) (hp : w.cell? ⟨p, 0, none⟩ = some (.int .i64 1)) :
    Calls Try.prog 39 #[.slice (some ⟨g, 0, none⟩) 2 2, .slice (some ⟨p, 0, none⟩) 1 c, .int .i64 500] w fun e w' => e = .returned (.tuple #[.int .i64 0, .int .i64 1]) ∧ w' = w := by
  obtain ⟨b0, b1, b2⟩ := b.at3
  go_enter Try.func39, Try.ntmps39
  go_wp2
  go_loop [6, 7, 14] (fun u v i => u = .int .i64 0 ∧ v = .int .i64 2 ∧ i = .int .i64 0) (fun _ _ _ => 0)
  case atStart => exact ⟨rfl, rfl, rfl⟩
  case round =>
    obtain ⟨rfl, rfl, rfl⟩ := hrel
    go_wp2
    go_ret2
    exact ⟨rfl, rfl⟩
theorem bounds1 (g : Nat) (w : World) (a : An w g 0 1000 5000 5010) :
    Calls Try.prog 29 #[.slice (some ⟨g, 0, none⟩) 1 1, .slice none 0 0, .int .i64 0, .int .i64 1100] w fun e w' => e = .returned (.tuple #[.int .i64 5100, .int .i64 5110]) ∧ Below w.heap.size w w' := by
  obtain ⟨a0, a1, a2⟩ := a.at0
  have A := Lib.hid (a.alloc (.cells #[.int .i64 1000, .int .i64 5000, .int .i64 5010] 56))
  clear a
  go_enter Try.func29, Try.ntmps29
  go_wp2_with (go_at_call 39; refine (runOf1 _ _).mono ?_; rintro e w1 ⟨rfl, rfl⟩)
  go_loopw [8, 9, 71] (fun u v i wr => (i = .int .i64 0 ∧ u = .int .i64 0 ∧ v = .int .i64 9007199254740992 ∧ wr = w1.alloc (.cells #[.int .i64 1000, .int .i64 5000, .int .i64 5010] 56)) ∨ (i = .int .i64 1 ∧ u = .int .i64 5100 ∧ v = .int .i64 5110 ∧ Below w1.heap.size w1 wr)) (fun _ _ i _ => (1 - intOf i).toNat)
  case atStart => exact .inl ⟨rfl, rfl, rfl, rfl⟩
  case round =>
    rcases hrel with ⟨rfl, rfl, rfl, rfl⟩ | ⟨rfl, rfl, rfl, hb⟩
    · obtain ⟨c0, c1, c2⟩ := A.out.at0
      clear a0 a1 a2
      go_wp2_with (go_at_call 40; refine (interval_ge 1000 5000 5010 1100 _ (by decide) (by decide) (by decide) (by decide) (by decide) (by decide) (by decide)).mono ?_; rintro e w2 ⟨rfl, hb⟩)
      have hB : Hid (Below w1.heap.size w1 w2) := Lib.hid ((((Below.refl _ _).alloc (Nat.le_refl _) _).alloc (by simp) _).trans (hb.mono (by simp; omega)))
      clear hb
      go_wp2
      go_roundw
      case rel => exact .inr ⟨rfl, rfl, rfl, hB.out⟩
      case measure => simp [intOf]
    · have hB := Lib.hid hb
      clear hb a0 a1 a2
      go_wp2
      go_ret2
      exact ⟨rfl, hB.out⟩
set_option maxRecDepth 100000 in
theorem bounds2 (g p c : Nat) (w : World) (a : An w g 0 0 0 0) (b : An w g 3 1000 5000 5000) (hp : w.cell? ⟨p, 0, none⟩ = some (.int .i64 1)) :
    Calls Try.prog 29 #[.slice (some ⟨g, 0, none⟩) 2 2, .slice (some ⟨p, 0, none⟩) 1 c, .int .i64 0, .int .i64 500] w fun e w' => e = .returned (.tuple #[.int .i64 500, .int .i64 4500]) ∧ Below w.heap.size w w' := by
  have R := Lib.hid (runOf2 g p c w b hp)
  obtain ⟨a0, a1, a2⟩ := a.at0
  have B := Lib.hid (b.alloc (.cells #[.int .i64 0, .int .i64 0, .int .i64 0] 56))
  clear a b hp
  go_enter Try.func29, Try.ntmps29
  go_wp2_with (go_at_call 39; with_reducible refine R.out.mono ?_; rintro e w1 ⟨rfl, rfl⟩)
  refine (interval_ge 0 0 0 500 _ (by decide) (by decide) (by decide) (by decide) (by decide) (by decide) (by decide)).mono ?_
  rintro e w2 ⟨rfl, hb⟩
  obtain ⟨b0, b1, b2⟩ := ((B.out).below hb).at3
  have hB : Hid (Below w1.heap.size w1 w2) := Lib.hid (((Below.refl _ _).alloc (Nat.le_refl _) _).trans (hb.mono (by simp)))
  clear hb a0 a1 a2
  go_wp2_with fail
  refine (interval_lt 1000 5000 5000 500 _ (by decide) (by decide) (by decide) (by decide) (by decide) (by decide) (by decide)).mono ?_
  rintro e w3 ⟨rfl, hb⟩
  have hB2 := Lib.hid (Buf.then_ hB.out hb)
  clear hb hB
  go_wp2
  go_ret2
  exact ⟨rfl, hB2.out⟩
theorem correct1 (g : Nat) (w : World) (a : An w g 0 1000 5000 5010) :
    Calls Try.prog 14 #[.slice (some ⟨g, 0, none⟩) 1 1, .int .i64 0, .int .i64 1100] w fun e w' => e = .returned (.tuple #[.int .i64 5105, .int .i64 5, .int .i64 0]) ∧ Below w.heap.size w w' := by
  have J := Lib.hid (jumps1 g w a)
  have A := Lib.hid a
  clear a
  go_enter Try.func14, Try.ntmps14
  go_wp2_with fail
  refine J.out.mono ?_
  rintro e w1 ⟨rfl, hb⟩
  have A1 := Lib.hid (A.out.below hb)
  have hB := Lib.hid hb
  clear hb
  go_wp2_with (go_at_call 27; refine (within_yes _ _ _ _ (by omega) (by omega)).mono ?_; rintro e w2 ⟨rfl, m, rfl⟩)
  refine (bounds1 g _ (A1.out.below (Buf.below_drewN (Below.refl _ _) m))).mono ?_
  rintro e w3 ⟨rfl, hb⟩
  have hB2 := Lib.hid (Buf.then_ (Buf.below_drewN hB.out m) hb)
  clear hb hB
  go_wp2
  go_ret3
  exact ⟨rfl, hB2.out⟩
theorem correct2 (g : Nat) (w : World) (a : An w g 0 0 0 0) (b : An w g 3 1000 5000 5000) :
    Calls Try.prog 14 #[.slice (some ⟨g, 0, none⟩) 2 2, .int .i64 0, .int .i64 500] w fun e w' => e = .returned (.tuple #[.int .i64 2500, .int .i64 2000, .int .i64 0]) ∧ Below w.heap.size w w' := by
  have J := Lib.hid (jumps2 g w a b)
  have A := Lib.hid a
  have B := Lib.hid b
  clear a b
  go_enter Try.func14, Try.ntmps14
  go_wp2_with fail
  refine J.out.mono ?_
  rintro e w1 ⟨p, c, rfl, _, hp, hb⟩
  have A1 := Lib.hid (A.out.below hb)
  have B1 := Lib.hid (B.out.below hb)
  have hB := Lib.hid hb
  replace hp := Lib.hid hp
  clear hb
  go_wp2_with (go_at_call 27; refine (within_yes _ _ _ _ (by omega) (by omega)).mono ?_; rintro e w2 ⟨rfl, m, rfl⟩)
  refine (bounds2 g p c _ (A1.out.below (Buf.below_drewN (Below.refl _ _) m)) (B1.out.below (Buf.below_drewN (Below.refl _ _) m)) hp.out).mono ?_
  rintro e w3 ⟨rfl, hb⟩
  have hB2 := Lib.hid (Buf.then_ (Buf.below_drewN hB.out m) hb)
  clear hb hB
  go_wp2
  go_ret3
  exact ⟨rfl, hB2.out⟩
theorem sane_any (w : World) : Calls Try.prog 8 #[] w fun e w' => e = .returned (.bool true) ∧ Below w.heap.size w w' := by
  have C1 := Lib.hid (correct1 w.heap.size _ (three (t := 56) (heap_alloc_new w (.cells #[.int .i64 1000, .int .i64 5000, .int .i64 5010] 56))))
  go_enter Try.func8, Try.ntmps8
  go_wp2_with fail
  refine C1.out.mono ?_
  rintro e w1 ⟨rfl, hb⟩
  have hB : Hid (Below w.heap.size w w1) := Lib.hid (Buf.then_ (new_block _) hb)
  clear hb C1
  have S := Lib.hid (six (t := 56) (heap_alloc_new w1 (.cells #[.int .i64 0, .int .i64 0, .int .i64 0, .int .i64 1000, .int .i64 5000, .int .i64 5000] 56)))
  have C2 := Lib.hid (correct2 w1.heap.size _ S.out.1 S.out.2)
  go_wp2_with fail
  refine C2.out.mono ?_
  rintro e w2 ⟨rfl, hb⟩
  have A2 := Lib.hid (S.out.1.below hb)
  have B2 := Lib.hid (S.out.2.below hb)
  have hB2 : Hid (Below w.heap.size w w2) := Lib.hid (Buf.then_ (Buf.then_ hB.out (new_block _)) hb)
  clear hb C2 S hB
  have J := Lib.hid (jumps2 w1.heap.size w2 A2.out B2.out)
  go_wp2_with fail
  refine J.out.mono ?_
  rintro e w3 ⟨p, c, rfl, hc, hp, hb⟩
  have hB3 := Lib.hid (Buf.then_ hB2.out hb)
  clear hb hB2 J A2 B2
  go_wp2
  go_ret
  exact ⟨rfl, hB3.out⟩
end Clock
end Go.Proofs.Ytdcjpjdkamlheaa
