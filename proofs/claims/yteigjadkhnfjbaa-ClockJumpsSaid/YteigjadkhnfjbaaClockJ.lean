/- Contracts of package clock at two anchors that do not agree. -/
import Derived.Test.YteigjadkhnfjbaaClockC
namespace Go.Proofs.Yteigjadkhnfjbaa
open Go.RowKit Wi Dice
namespace Clock
/-- Two valid anchors. -/
structure Two (t1 l1 h1 t2 l2 h2 : Int) : Prop where
  t0 : 0 ≤ t1
  tt : t1 < t2
  te : t2 ≤ 10000
  l0 : 0 ≤ l1
  lh : l1 ≤ h1
  he : h1 ≤ 1000000000000000
  m0 : 0 ≤ l2
  mh : l2 ≤ h2
  me : h2 ≤ 1000000000000000
theorem valid2g {t1 l1 h1 t2 l2 h2 : Int} (T : Two t1 l1 h1 t2 l2 h2) (g : Nat) (w : World) (a : An w g 0 t1 l1 h1) (b : An w g 3 t2 l2 h2) :
    Calls Try.prog 13 #[.slice (some ⟨g, 0, none⟩) 2 2, .int .i64 0] w fun e w' => e = .returned (.bool true) ∧ Below w.heap.size w w' := by
  obtain ⟨y1, y2, y3, y4, y5, y6, y7, y8, y9⟩ := T
  have A := Lib.hid a
  have B := Lib.hid b
  clear a b
  go_enter Try.func13, Try.ntmps13
  go_wp2_with (go_at_call 15; refine (within_yes _ _ _ _ (by omega) (by omega)).mono ?_; rintro e w' ⟨rfl, m, rfl⟩)
  go_loopw [17] (fun i wr => ∃ k : Nat, k ≤ 2 ∧ i = .int .i64 k ∧ Below w.heap.size w wr) (fun i _ => (2 - intOf i).toNat)
  case atStart => exact ⟨0, by omega, rfl, Buf.below_drewN (Below.refl _ _) _⟩
  case round =>
    obtain ⟨k, hk, rfl, hb⟩ := hrel
    by_cases h0 : k = 0
    · subst h0
      obtain ⟨a0, a1, a2⟩ := A.out.below hb
      have HB := Lib.hid hb
      clear hb
      go_wp2_with (go_at_call 15; refine (within_yes _ _ _ _ (by omega) (by omega)).mono ?_; rintro e w' ⟨rfl, m, rfl⟩)
      go_quiet (fail)
      go_wp2
      go_roundw
      case rel => exact ⟨1, by omega, rfl, Buf.below_drewN (HB.out.alloc (by have := HB.out.size; omega) _) _⟩
      case measure => simp [intOf]
    by_cases h1 : k = 1
    · subst h1
      obtain ⟨a0, a1, a2⟩ := A.out.below hb
      obtain ⟨b0, b1, b2⟩ := B.out.below hb
      have c0 : ∀ o m, ((wr.alloc o).drewN m).cell? ⟨g, 0, none⟩ = some (.int .i64 t1) := fun o m => ((A.out.below hb).below (new_block o)).1
      have HB := Lib.hid hb
      clear hb
      go_wp2_with (go_at_call 15; refine (within_yes _ _ _ _ (by omega) (by omega)).mono ?_; rintro e w' ⟨rfl, m, rfl⟩)
      go_quiet (fail)
      go_wp2
      go_roundw
      case rel => exact ⟨2, by omega, rfl, Buf.below_drewN (HB.out.alloc (by have := HB.out.size; omega) _) _⟩
      case measure => simp [intOf]
    obtain rfl : k = 2 := by omega
    have HB := Lib.hid hb
    clear hb
    go_wp2
    go_ret
    exact ⟨rfl, HB.out⟩
theorem agrees2g {t1 l1 h1 t2 l2 h2 : Int} (T : Two t1 l1 h1 t2 l2 h2) (hq : l1 + (t2 - t1) ≤ h2) (hj : h1 + (t2 - t1) < l2) (w : World) :
    Calls Try.prog 14 #[.agg #[.int .i64 t1, .int .i64 l1, .int .i64 h1], .agg #[.int .i64 t2, .int .i64 l2, .int .i64 h2], .int .i64 0] w fun e w' => e = .returned (.bool false) ∧ Below w.heap.size w w' := by
  have V := Lib.hid fun (w : World) (o1 o2 : Obj) => valid2g T (w.heap.size + 1 + 1) (((w.alloc o1).alloc o2).alloc (.cells #[.int .i64 t1, .int .i64 l1, .int .i64 h1, .int .i64 t2, .int .i64 l2, .int .i64 h2] 30)) (six (t := 30) (by
      have e : ((w.alloc o1).alloc o2).heap.size = w.heap.size + 1 + 1 := by simp
      rw [← e]; exact heap_alloc_new _ _)).1 (six (t := 30) (by
      have e : ((w.alloc o1).alloc o2).heap.size = w.heap.size + 1 + 1 := by simp
      rw [← e]; exact heap_alloc_new _ _)).2
  obtain ⟨y1, y2, y3, y4, y5, y6, y7, y8, y9⟩ := T
  have hjd : decide (l2 ≤ h1 + (t2 - t1)) = false := by simp; omega
  go_enter Try.func14, Try.ntmps14
  have A := Lib.hid fun (o1 o2 : Obj) => ((three (t := 30) (heap_alloc_new w (.cells #[.int .i64 t1, .int .i64 l1, .int .i64 h1] 30))).alloc o1).alloc o2
  have B := Lib.hid fun (o1 o2 : Obj) => (three (t := 30) (new1 w o1 (.cells #[.int .i64 t2, .int .i64 l2, .int .i64 h2] 30))).alloc o2
  go_wp2_with fail
  refine (V.out _ _ _).mono ?_
  rintro e w1 ⟨rfl, hb⟩
  have A1 := Lib.hid ((A.out _ _).below hb)
  obtain ⟨a0, a1, a2⟩ := A1.out
  have B1 := Lib.hid ((B.out _ _).below hb)
  obtain ⟨b0, b1, b2⟩ := B1.out
  have hB : Hid (Below w.heap.size w w1) := Lib.hid (((((Below.refl _ _).alloc (Nat.le_refl _) _).alloc (by simp) _).alloc (by simp; omega) _).trans (hb.mono (by simp; omega)))
  clear hb A B V
  go_wp2_with fail
  refine (interval_ge t1 l1 h1 t2 _ (by omega) (by omega) (by omega) (by omega) (by omega) (by omega) (by omega)).mono ?_
  rintro e w2 ⟨rfl, hb⟩
  obtain ⟨c0, c1, c2⟩ := B1.out.below hb
  have hB2 := Lib.hid (Buf.then_ hB.out hb)
  clear hb a0 a1 a2 b0 b1 b2
  go_wp2
  go_ret
  exact ⟨rfl, hB2.out⟩
theorem jumps2g {t1 l1 h1 t2 l2 h2 : Int} (T : Two t1 l1 h1 t2 l2 h2) (hq : l1 + (t2 - t1) ≤ h2) (hj : h1 + (t2 - t1) < l2) (g : Nat) (w : World) (a : An w g 0 t1 l1 h1) (b : An w g 3 t2 l2 h2) :
    Calls Try.prog 9 #[.slice (some ⟨g, 0, none⟩) 2 2, .int .i64 0] w fun e w' => ∃ p c, e = .returned (.tuple #[.slice (some ⟨p, 0, none⟩) 1 c, .int .i64 0]) ∧ 1 ≤ c ∧ w'.cell? ⟨p, 0, none⟩ = some (.int .i64 1) ∧ Below w.heap.size w w' := by
  have V := Lib.hid (valid2g T g w a b)
  have A := Lib.hid a
  have B := Lib.hid b
  clear a b
  obtain ⟨i0, hi, hz0, hz1, hz2⟩ := info_parts infoI
  go_enter Try.func9, Try.ntmps9
  go_wp2_with fail
  refine V.out.mono ?_
  rintro e w1 ⟨rfl, hb⟩
  have hB := Lib.hid hb
  have A1 := Lib.hid (A.out.below hb)
  have B1 := Lib.hid (B.out.below hb)
  clear hb
  go_wp2
  go_loopw [6, 7] (fun v i wr => (i = .int .i64 1 ∧ v = .slice none 0 0 ∧ wr = w1) ∨ (i = .int .i64 2 ∧ Buf.Own w.heap.size wr v [.int .i64 1] ∧ Below w.heap.size w wr)) (fun _ i _ => (2 - intOf i).toNat)
  case atStart => exact .inl ⟨rfl, rfl, rfl⟩
  case round =>
    rcases hrel with ⟨rfl, rfl, rfl⟩ | ⟨rfl, hown, hb⟩
    · obtain ⟨a0, a1, a2⟩ := A1.out
      obtain ⟨b0, b1, b2⟩ := B1.out
      go_wp2_with fail
      refine Buf.region_calm wr (by kernel_rfl) (by kernel_rfl) (Below.refl _ _) ?_
      clear a0 a1 a2 b0 b1 b2
      repeat (go_big_quiet_step ((intro hC; first
        | (go_at_call 14; exact Buf.calm hC (agrees2g T hq hj _))
        | rfl
        | (simp only [((A1.out.below hC).at0).1, ((A1.out.below hC).at0).2.1, ((A1.out.below hC).at0).2.2, Result.andThen_ok]; exact ⟨trivial, rfl⟩)
        | (simp only [((B1.out.below hC).at3).1, ((B1.out.below hC).at3).2.1, ((B1.out.below hC).at3).2.2, Result.andThen_ok]; exact ⟨trivial, rfl⟩))))
      refine wpQuiet_nil ?_
      intro w2 hb2
      have hB2 := Lib.hid (Buf.then_ hB.out hb2)
      have hsz := hB2.out.size
      have hown := Buf.Own.nil w.heap.size w2
      clear hb2
      go_wp2_with (at_builtin; refine Buf.wpList_append_one rfl _ _ 22 rfl 3 _ i0 (.int .i64 0) 8 Try.underlying22 hi hz0 hz1 hz2 rfl rfl hown hB2.out hsz (.int .i64 1) rfl rfl (by decide) (by decide) ?_; intro v' w' hown' hb' _)
      go_roundw
      case rel => exact .inr ⟨rfl, hown', hb'⟩
      case measure => simp [intOf]
    · obtain ⟨p, c, rfl, _, hc, hcell, _⟩ := hown.parts (show 0 < 1 by decide)
      have c0 := Lib.hid (hcell 0 (show 0 < 1 by decide))
      have hB2 := Lib.hid hb
      have hc := Lib.hid hc
      clear hb hown hcell
      go_wp2
      go_ret2
      exact ⟨p, c, rfl, hc.out, c0.out, hB2.out⟩
theorem runOf_lo {t2 l2 h2 : Int} (g p c : Nat) (tag : Int) (w : World) (ht : tag < t2) (b : An w g 3 t2 l2 h2) (hp : w.cell? ⟨p, 0, none⟩ = some (.int .i64 1)) :
    Calls Try.prog 19 #[.slice (some ⟨g, 0, none⟩) 2 2, .slice (some ⟨p, 0, none⟩) 1 c, .int .i64 tag] w fun e w' => e = .returned (.tuple #[.int .i64 0, .int .i64 1]) ∧ w' = w := by
  obtain ⟨b0, b1, b2⟩ := b.at3
  go_enter Try.func19, Try.ntmps19
  go_wp2
  go_loop [6, 7, 14] (fun u v i => u = .int .i64 0 ∧ v = .int .i64 2 ∧ i = .int .i64 0) (fun _ _ _ => 0)
  case atStart => exact ⟨rfl, rfl, rfl⟩
  case round =>
    obtain ⟨rfl, rfl, rfl⟩ := hrel
    go_wp2
    go_ret2
    exact ⟨rfl, rfl⟩
theorem runOf_hi {t2 l2 h2 : Int} (g p c : Nat) (tag : Int) (w : World) (ht : t2 ≤ tag) (b : An w g 3 t2 l2 h2) (hp : w.cell? ⟨p, 0, none⟩ = some (.int .i64 1)) :
    Calls Try.prog 19 #[.slice (some ⟨g, 0, none⟩) 2 2, .slice (some ⟨p, 0, none⟩) 1 c, .int .i64 tag] w fun e w' => e = .returned (.tuple #[.int .i64 1, .int .i64 2]) ∧ w' = w := by
  obtain ⟨b0, b1, b2⟩ := b.at3
  go_enter Try.func19, Try.ntmps19
  go_wp2
  go_loop [6, 7, 14] (fun u v i => v = .int .i64 2 ∧ ((u = .int .i64 0 ∧ i = .int .i64 0) ∨ (u = .int .i64 1 ∧ i = .int .i64 1))) (fun _ _ i => (1 - intOf i).toNat)
  case atStart => exact ⟨rfl, .inl ⟨rfl, rfl⟩⟩
  case round =>
    rcases hrel with ⟨rfl, ⟨rfl, rfl⟩ | ⟨rfl, rfl⟩⟩
    · go_wp2
      go_round
      case rel => exact ⟨rfl, .inr ⟨rfl, rfl⟩⟩
      case measure => simp [intOf]
    · go_wp2
      go_ret2
      exact ⟨rfl, rfl⟩
set_option maxRecDepth 100000 in
theorem bounds_mid {t1 l1 h1 t2 l2 h2 : Int} (T : Two t1 l1 h1 t2 l2 h2) (g p c : Nat) (tag : Int) (w : World) (ta : t1 ≤ tag) (tb : tag < t2) (hl : 0 ≤ l2 - (t2 - tag)) (hlt : l1 + (tag - t1) < l2 - (t2 - tag)) (hht : h1 + (tag - t1) < h2 - (t2 - tag))
    (a : An w g 0 t1 l1 h1) (b : An w g 3 t2 l2 h2) (hp : w.cell? ⟨p, 0, none⟩ = some (.int .i64 1)) :
    Calls Try.prog 16 #[.slice (some ⟨g, 0, none⟩) 2 2, .slice (some ⟨p, 0, none⟩) 1 c, .int .i64 0, .int .i64 tag] w fun e w' => e = .returned (.tuple #[.int .i64 (l1 + (tag - t1)), .int .i64 (h2 - (t2 - tag))]) ∧ Below w.heap.size w w' := by
  have R := Lib.hid (runOf_lo g p c tag w tb b hp)
  obtain ⟨a0, a1, a2⟩ := a.at0
  have B := Lib.hid (b.alloc (.cells #[.int .i64 t1, .int .i64 l1, .int .i64 h1] 30))
  clear a b hp
  obtain ⟨y1, y2, y3, y4, y5, y6, y7, y8, y9⟩ := T
  go_enter Try.func16, Try.ntmps16
  go_wp2_with (go_at_call 19; with_reducible refine R.out.mono ?_; rintro e w1 ⟨rfl, rfl⟩)
  refine (interval_ge t1 l1 h1 tag _ ta y1 (by omega) y4 (by omega) (by omega) y6).mono ?_
  rintro e w2 ⟨rfl, hb⟩
  obtain ⟨b0, b1, b2⟩ := ((B.out).below hb).at3
  have hB : Hid (Below w1.heap.size w1 w2) := Lib.hid (((Below.refl _ _).alloc (Nat.le_refl _) _).trans (hb.mono (by simp)))
  clear hb a0 a1 a2
  go_wp2_with fail
  refine (interval_lt t2 l2 h2 tag _ tb (by omega) y3 y7 (by omega) (by omega) y9).mono ?_
  rintro e w3 ⟨rfl, hb⟩
  have hB2 := Lib.hid (Buf.then_ hB.out hb)
  clear hb hB
  go_wp2
  go_ret2
  exact ⟨rfl, hB2.out⟩
theorem bounds_lt {t1 l1 h1 t2 l2 h2 : Int} (T : Two t1 l1 h1 t2 l2 h2) (g p c : Nat) (tag : Int) (w : World) (t0 : 0 ≤ tag) (ta : tag < t1) (hl : 0 < l1 - (t1 - tag))
    (a : An w g 0 t1 l1 h1) (b : An w g 3 t2 l2 h2) (hp : w.cell? ⟨p, 0, none⟩ = some (.int .i64 1)) :
    Calls Try.prog 16 #[.slice (some ⟨g, 0, none⟩) 2 2, .slice (some ⟨p, 0, none⟩) 1 c, .int .i64 0, .int .i64 tag] w fun e w' => e = .returned (.tuple #[.int .i64 (l1 - (t1 - tag)), .int .i64 (h1 - (t1 - tag))]) ∧ Below w.heap.size w w' := by
  have R := Lib.hid (runOf_lo g p c tag w (by have := T.tt; omega) b hp)
  obtain ⟨a0, a1, a2⟩ := a.at0
  have A := Lib.hid (a.alloc (.cells #[.int .i64 t1, .int .i64 l1, .int .i64 h1] 30))
  clear a b hp
  obtain ⟨y1, y2, y3, y4, y5, y6, y7, y8, y9⟩ := T
  go_enter Try.func16, Try.ntmps16
  go_wp2_with (go_at_call 19; with_reducible refine R.out.mono ?_; rintro e w1 ⟨rfl, rfl⟩)
  go_loopw [8, 9, 71] (fun u v i wr => (i = .int .i64 0 ∧ u = .int .i64 0 ∧ v = .int .i64 9007199254740992 ∧ wr = w1.alloc (.cells #[.int .i64 t1, .int .i64 l1, .int .i64 h1] 30)) ∨ (i = .int .i64 1 ∧ u = .int .i64 (l1 - (t1 - tag)) ∧ v = .int .i64 (h1 - (t1 - tag)) ∧ Below w1.heap.size w1 wr)) (fun _ _ i _ => (1 - intOf i).toNat)
  case atStart => exact .inl ⟨rfl, rfl, rfl, rfl⟩
  case round =>
    rcases hrel with ⟨rfl, rfl, rfl, rfl⟩ | ⟨rfl, rfl, rfl, hb⟩
    · obtain ⟨c0, c1, c2⟩ := A.out.at0
      clear a0 a1 a2
      go_wp2_with (go_at_call 18; refine (interval_lt t1 l1 h1 tag _ ta t0 (by omega) y4 (by omega) (by omega) y6).mono ?_; rintro e w2 ⟨rfl, hb⟩)
      have hB : Hid (Below w1.heap.size w1 w2) := Lib.hid ((((Below.refl _ _).alloc (Nat.le_refl _) _).alloc (by simp) _).trans (hb.mono (by simp; omega)))
      clear hb
      go_wp2
      go_roundw
      case rel => exact .inr ⟨rfl, rfl, rfl, hB.out⟩
      case measure => simp [intOf]
    · have hB := Lib.hid hb
      clear hb a0 a1 a2
      go_wp2
      go_ret2
      exact ⟨rfl, hB.out⟩
theorem bounds_hi {t1 l1 h1 t2 l2 h2 : Int} (T : Two t1 l1 h1 t2 l2 h2) (g p c : Nat) (tag : Int) (w : World) (t0 : t2 ≤ tag) (ta : tag ≤ 10000) (l0 : 0 < l2)
    (b : An w g 3 t2 l2 h2) (hp : w.cell? ⟨p, 0, none⟩ = some (.int .i64 1)) :
    Calls Try.prog 16 #[.slice (some ⟨g, 0, none⟩) 2 2, .slice (some ⟨p, 0, none⟩) 1 c, .int .i64 0, .int .i64 tag] w fun e w' => e = .returned (.tuple #[.int .i64 (l2 + (tag - t2)), .int .i64 (h2 + (tag - t2))]) ∧ Below w.heap.size w w' := by
  have R := Lib.hid (runOf_hi g p c tag w t0 b hp)
  obtain ⟨b0, b1, b2⟩ := b.at3
  have B := Lib.hid (b.alloc (.cells #[.int .i64 t2, .int .i64 l2, .int .i64 h2] 30))
  clear b hp
  obtain ⟨y1, y2, y3, y4, y5, y6, y7, y8, y9⟩ := T
  go_enter Try.func16, Try.ntmps16
  go_wp2_with (go_at_call 19; with_reducible refine R.out.mono ?_; rintro e w1 ⟨rfl, rfl⟩)
  go_loopw [8, 9, 71] (fun u v i wr => (i = .int .i64 0 ∧ u = .int .i64 0 ∧ v = .int .i64 9007199254740992 ∧ wr = w1.alloc (.cells #[.int .i64 t2, .int .i64 l2, .int .i64 h2] 30)) ∨ (i = .int .i64 1 ∧ u = .int .i64 (l2 + (tag - t2)) ∧ v = .int .i64 (h2 + (tag - t2)) ∧ Below w1.heap.size w1 wr)) (fun _ _ i _ => (1 - intOf i).toNat)
  case atStart => exact .inl ⟨rfl, rfl, rfl, rfl⟩
  case round =>
    rcases hrel with ⟨rfl, rfl, rfl, rfl⟩ | ⟨rfl, rfl, rfl, hb⟩
    · obtain ⟨c0, c1, c2⟩ := B.out.at3
      clear b0 b1 b2
      go_wp2_with (go_at_call 18; refine (interval_ge t2 l2 h2 tag _ t0 (by omega) ta y7 (by omega) (by omega) y9).mono ?_; rintro e w2 ⟨rfl, hb⟩)
      have hB : Hid (Below w1.heap.size w1 w2) := Lib.hid ((((Below.refl _ _).alloc (Nat.le_refl _) _).alloc (by simp) _).trans (hb.mono (by simp; omega)))
      clear hb
      go_wp2
      go_roundw
      case rel => exact .inr ⟨rfl, rfl, rfl, hB.out⟩
      case measure => simp [intOf]
    · have hB := Lib.hid hb
      clear hb b0 b1 b2
      go_wp2
      go_ret2
      exact ⟨rfl, hB.out⟩
theorem correct_of {t1 l1 h1 t2 l2 h2 : Int} (T : Two t1 l1 h1 t2 l2 h2) (hq : l1 + (t2 - t1) ≤ h2) (hj : h1 + (t2 - t1) < l2) (g : Nat) (tag lo hi : Int) (w : World) (t0 : 0 ≤ tag) (te : tag ≤ 10000) (x0 : 0 ≤ lo) (x1 : lo ≤ hi) (x2 : hi ≤ 2000000000000000)
    (a : An w g 0 t1 l1 h1) (b : An w g 3 t2 l2 h2)
    (hbd : ∀ (p c : Nat) (w : World), An w g 0 t1 l1 h1 → An w g 3 t2 l2 h2 → w.cell? ⟨p, 0, none⟩ = some (.int .i64 1) →
      Calls Try.prog 16 #[.slice (some ⟨g, 0, none⟩) 2 2, .slice (some ⟨p, 0, none⟩) 1 c, .int .i64 0, .int .i64 tag] w fun e w' => e = .returned (.tuple #[.int .i64 lo, .int .i64 hi]) ∧ Below w.heap.size w w') :
    Calls Try.prog 10 #[.slice (some ⟨g, 0, none⟩) 2 2, .int .i64 0, .int .i64 tag] w fun e w' => e = .returned (.tuple #[.int .i64 ((lo + hi) / 2), .int .i64 (hi - (lo + hi) / 2), .int .i64 0]) ∧ Below w.heap.size w w' := by
  have J := Lib.hid (jumps2g T hq hj g w a b)
  have A := Lib.hid a
  have B := Lib.hid b
  have HBD := Lib.hid hbd
  clear a b hbd T hq hj
  have q0 : 0 ≤ (lo + hi) / 2 := by omega
  have q1 : (lo + hi) / 2 ≤ hi := by omega
  go_enter Try.func10, Try.ntmps10
  go_wp2_with fail
  refine J.out.mono ?_
  rintro e w1 ⟨p, c, rfl, _, hp, hb⟩
  have A1 := Lib.hid (A.out.below hb)
  have B1 := Lib.hid (B.out.below hb)
  have hB := Lib.hid hb
  replace hp := Lib.hid hp
  clear hb
  go_wp2_with (go_at_call 15; refine (within_yes _ _ _ _ (by omega) (by omega)).mono ?_; rintro e w2 ⟨rfl, m, rfl⟩)
  refine (HBD.out p c _ (A1.out.below (Buf.below_drewN (Below.refl _ _) m)) (B1.out.below (Buf.below_drewN (Below.refl _ _) m)) hp.out).mono ?_
  rintro e w3 ⟨rfl, hb⟩
  have hB2 := Lib.hid (Buf.then_ (Buf.below_drewN hB.out m) hb)
  clear hb hB
  go_wp2
  go_ret3
  exact ⟨rfl, hB2.out⟩
end Clock
end Go.Proofs.Yteigjadkhnfjbaa
