/- Contracts of package clock: Elapsed, the interval of an anchor, and Valid at the examples. -/
import Derived.Test.YtdcjpjdkamlheaaWithin
namespace Go.Proofs.Ytdcjpjdkamlheaa
open Go.RowKit Wi Dice
namespace Clock
/-- The least and the greatest time. -/
def loE (x d : Int) : Int := d / (1000000 + x) * 1000000 + d % (1000000 + x) * 1000000 / (1000000 + x)
def hiE (x d : Int) : Int := d / (1000000 - x) * 1000000 + (d % (1000000 - x) * 1000000 + (1000000 - x) - 1) / (1000000 - x)
theorem part_bd (d f : Int) (d0 : 0 ≤ d) (d1 : d ≤ 9007199254740992) (f0 : 500000 ≤ f) (f1 : f ≤ 1500000) :
    0 ≤ d / f ∧ d / f ≤ 18014398510 ∧ 0 ≤ d % f ∧ d % f < f :=
  ⟨Int.ediv_nonneg d0 (by omega), Int.ediv_le_of_le_mul (by omega) (by omega), Int.emod_nonneg _ (by omega), Int.emod_lt_of_pos _ (by omega)⟩
theorem quo_bd (r f : Int) (r0 : 0 ≤ r) (r1 : r < f) (f1 : f ≤ 1500000) : 0 ≤ r * 1000000 / f ∧ r * 1000000 / f ≤ 1500000000000 ∧ 0 ≤ (r * 1000000 + f - 1) / f ∧ (r * 1000000 + f - 1) / f ≤ 1500001500000 := by
  have a : 0 ≤ r * 1000000 := by omega
  have b : r * 1000000 ≤ 1500000000000 := by omega
  refine ⟨Int.ediv_nonneg a (by omega), Int.le_trans (Int.ediv_le_self _ a) b, Int.ediv_nonneg (by omega) (by omega), Int.le_trans (Int.ediv_le_self _ (by omega)) (by omega)⟩
theorem elapsed_any (x d : Int) (w : World) (x0 : 0 ≤ x) (x1 : x ≤ 500000) (d0 : 0 ≤ d) (d1 : d ≤ 9007199254740992) :
    Calls Try.prog 43 #[.int .i64 x, .int .i64 d] w fun e w' => e = .returned (.tuple #[.int .i64 (loE x d), .int .i64 (hiE x d)]) ∧ ∃ m, w' = w.drewN m := by
  obtain ⟨a0, a1, a2, a3⟩ := part_bd d (1000000 + x) d0 d1 (by omega) (by omega)
  obtain ⟨b0, b1, b2, b3⟩ := part_bd d (1000000 - x) d0 d1 (by omega) (by omega)
  obtain ⟨p0, p1, _, _⟩ := quo_bd _ _ a2 a3 (by omega)
  obtain ⟨_, _, q0, q1⟩ := quo_bd _ _ b2 b3 (by omega)
  have e1 : Hid (loE x d = d / (1000000 + x) * 1000000 + d % (1000000 + x) * 1000000 / (1000000 + x)) := Lib.hid rfl
  have e2 : Hid (hiE x d = d / (1000000 - x) * 1000000 + (d % (1000000 - x) * 1000000 + (1000000 - x) - 1) / (1000000 - x)) := Lib.hid rfl
  rw [e1.out, e2.out]
  clear e1 e2
  go_enter Try.func43, Try.ntmps43
  go_wp2_with (go_at_call 27; refine (within_yes _ _ _ _ (by omega) (by omega)).mono ?_; rintro e w' ⟨rfl, m, rfl⟩)
  go_quiet (fail)
  go_wp2_with fail
  go_quiet (fail)
  go_wp2
  go_ret2
  exact ⟨rfl, _, by rw [World.drewN_drewN, World.drewN_drewN]⟩
/-- Three cells of a block. -/
theorem cells3 {w : World} {g : Nat} {x y z : Value} {t : TypeId} (h : w.heap[g]? = some (.cells #[x, y, z] t (0, 0))) : w.cell? ⟨g, 0, none⟩ = some x ∧ w.cell? ⟨g, 1, none⟩ = some y ∧ w.cell? ⟨g, 2, none⟩ = some z :=
  ⟨cell_of_row w g 0 _ _ _ h, cell_of_row w g 1 _ _ _ h, cell_of_row w g 2 _ _ _ h⟩
theorem lo_zero (d : Int) : loE 0 d = d := by unfold loE; omega
theorem hi_zero (d : Int) : hiE 0 d = d := by unfold hiE; omega
/-- The interval of an anchor without drift. -/
theorem interval_ge (t l h tag : Int) (w : World) (d0 : t ≤ tag) (t0 : 0 ≤ t) (t1 : tag ≤ 10000) (l0 : 0 ≤ l) (l1 : l ≤ 1000000000000000) (h0 : 0 ≤ h) (h1 : h ≤ 1000000000000000) :
    Calls Try.prog 40 #[.agg #[.int .i64 t, .int .i64 l, .int .i64 h], .int .i64 0, .int .i64 tag] w fun e w' => e = .returned (.tuple #[.int .i64 (l + (tag - t)), .int .i64 (h + (tag - t))]) ∧ Below w.heap.size w w' := by
  have E : Hid (∀ w, Calls Try.prog 43 #[.int .i64 0, .int .i64 (tag - t)] w fun e w' => e = .returned (.tuple #[.int .i64 (tag - t), .int .i64 (tag - t)]) ∧ ∃ m, w' = w.drewN m) := Lib.hid fun w => by
    have := elapsed_any 0 (tag - t) w (by decide) (by decide) (by omega) (by omega)
    rwa [lo_zero, hi_zero] at this
  go_enter Try.func40, Try.ntmps40
  go_wp2_with (go_at_call 43; with_reducible refine (E.out _).mono ?_; rintro e w' ⟨rfl, m, rfl⟩)
  go_quiet (fail)
  go_wp2
  go_ret2
  exact ⟨rfl, Buf.below_drewN (Buf.below_drewN ((Below.refl _ _).alloc (Nat.le_refl _) _) _) _⟩
theorem interval_lt (t l h tag : Int) (w : World) (d0 : tag < t) (t0 : 0 ≤ tag) (t1 : t ≤ 10000) (l0 : 0 ≤ l) (l1 : l ≤ 1000000000000000) (h0 : 0 ≤ h) (h1 : h ≤ 1000000000000000) :
    Calls Try.prog 40 #[.agg #[.int .i64 t, .int .i64 l, .int .i64 h], .int .i64 0, .int .i64 tag] w fun e w' => e = .returned (.tuple #[.int .i64 (l - (t - tag)), .int .i64 (h - (t - tag))]) ∧ Below w.heap.size w w' := by
  have E : Hid (∀ w, Calls Try.prog 43 #[.int .i64 0, .int .i64 (t - tag)] w fun e w' => e = .returned (.tuple #[.int .i64 (t - tag), .int .i64 (t - tag)]) ∧ ∃ m, w' = w.drewN m) := Lib.hid fun w => by
    have := elapsed_any 0 (t - tag) w (by decide) (by decide) (by omega) (by omega)
    rwa [lo_zero, hi_zero] at this
  go_enter Try.func40, Try.ntmps40
  go_wp2_with (go_at_call 43; with_reducible refine (E.out _).mono ?_; rintro e w' ⟨rfl, m, rfl⟩)
  go_quiet (fail)
  go_wp2
  go_ret2
  exact ⟨rfl, Buf.below_drewN (Buf.below_drewN ((Below.refl _ _).alloc (Nat.le_refl _) _) _) _⟩
/-- An anchor in memory. -/
def An (w : World) (g j : Nat) (t l h : Int) : Prop := w.cell? ⟨g, j, none⟩ = some (.int .i64 t) ∧ w.cell? ⟨g, j + 1, none⟩ = some (.int .i64 l) ∧ w.cell? ⟨g, j + 2, none⟩ = some (.int .i64 h)
theorem An.below {w w' : World} {g j : Nat} {t l h : Int} (a : An w g j t l h) (hb : Below w.heap.size w w') : An w' g j t l h :=
  ⟨by rw [hb.cell (p := ⟨g, j, none⟩) (World.block_lt_of_cell? w _ a.1)]; exact a.1, by rw [hb.cell (p := ⟨g, j + 1, none⟩) (World.block_lt_of_cell? w _ a.2.1)]; exact a.2.1, by rw [hb.cell (p := ⟨g, j + 2, none⟩) (World.block_lt_of_cell? w _ a.2.2)]; exact a.2.2⟩
theorem valid1 (g : Nat) (w : World) (a : An w g 0 1000 5000 5010) :
    Calls Try.prog 26 #[.slice (some ⟨g, 0, none⟩) 1 1, .int .i64 0] w fun e w' => e = .returned (.bool true) ∧ Below w.heap.size w w' := by
  have A := Lib.hid a
  clear a
  go_enter Try.func26, Try.ntmps26
  go_wp2_with (go_at_call 27; refine (within_yes _ _ _ _ (by omega) (by omega)).mono ?_; rintro e w' ⟨rfl, m, rfl⟩)
  go_loopw [17] (fun i wr => ∃ k : Nat, k ≤ 1 ∧ i = .int .i64 k ∧ Below w.heap.size w wr) (fun i _ => (1 - intOf i).toNat)
  case atStart => exact ⟨0, by omega, rfl, Buf.below_drewN (Below.refl _ _) _⟩
  case round =>
    obtain ⟨k, hk, rfl, hb⟩ := hrel
    by_cases h0 : k = 0
    · subst h0
      obtain ⟨a0, a1, a2⟩ := A.out.below hb
      have HB := Lib.hid hb
      clear hb
      go_wp2_with (go_at_call 27; refine (within_yes _ _ _ _ (by omega) (by omega)).mono ?_; rintro e w' ⟨rfl, m, rfl⟩)
      go_quiet (fail)
      go_wp2
      go_roundw
      case rel => exact ⟨1, by omega, rfl, Buf.below_drewN (HB.out.alloc (by have := HB.out.size; omega) _) _⟩
      case measure => simp [intOf]
    obtain rfl : k = 1 := by omega
    have HB := Lib.hid hb
    clear hb
    go_wp2
    go_ret
    exact ⟨rfl, HB.out⟩
theorem valid2 (g : Nat) (w : World) (a : An w g 0 0 0 0) (b : An w g 3 1000 5000 5000) :
    Calls Try.prog 26 #[.slice (some ⟨g, 0, none⟩) 2 2, .int .i64 0] w fun e w' => e = .returned (.bool true) ∧ Below w.heap.size w w' := by
  have A := Lib.hid a
  have B := Lib.hid b
  clear a b
  go_enter Try.func26, Try.ntmps26
  go_wp2_with (go_at_call 27; refine (within_yes _ _ _ _ (by omega) (by omega)).mono ?_; rintro e w' ⟨rfl, m, rfl⟩)
  go_loopw [17] (fun i wr => ∃ k : Nat, k ≤ 2 ∧ i = .int .i64 k ∧ Below w.heap.size w wr) (fun i _ => (2 - intOf i).toNat)
  case atStart => exact ⟨0, by omega, rfl, Buf.below_drewN (Below.refl _ _) _⟩
  case round =>
    obtain ⟨k, hk, rfl, hb⟩ := hrel
    by_cases h0 : k = 0
    · subst h0
      obtain ⟨a0, a1, a2⟩ := A.out.below hb
      have HB := Lib.hid hb
      clear hb
      go_wp2_with (go_at_call 27; refine (within_yes _ _ _ _ (by omega) (by omega)).mono ?_; rintro e w' ⟨rfl, m, rfl⟩)
      go_quiet (fail)
      go_wp2
      go_roundw
      case rel => exact ⟨1, by omega, rfl, Buf.below_drewN (HB.out.alloc (by have := HB.out.size; omega) _) _⟩
      case measure => simp [intOf]
    by_cases h1 : k = 1
    · subst h1
      obtain ⟨a0, a1, a2⟩ := A.out.below hb
      obtain ⟨b0, b1, b2⟩ := B.out.below hb
      have c0 : ∀ o m, ((wr.alloc o).drewN m).cell? ⟨g, 0, none⟩ = some (.int .i64 0) := fun o m => ((A.out.below hb).below (new_block o)).1
      have HB := Lib.hid hb
      clear hb
      go_wp2_with (go_at_call 27; refine (within_yes _ _ _ _ (by omega) (by omega)).mono ?_; rintro e w' ⟨rfl, m, rfl⟩)
      go_quiet (fail)
      go_wp2
      go_roundw
      case rel => exact ⟨2, by omega, rfl, Buf.below_drewN (HB.out.alloc (by have := HB.out.size; omega) _) _⟩
      case measure => simp [intOf]
    obtain rfl : k = 2 := by omega
    have HB := Lib.hid hb
    clear hb
    go_wp2
    go_ret
    exact ⟨rfl, HB.out⟩
end Clock
end Go.Proofs.Ytdcjpjdkamlheaa
