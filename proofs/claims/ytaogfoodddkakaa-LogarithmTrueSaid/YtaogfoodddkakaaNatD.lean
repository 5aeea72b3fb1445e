/- Contracts: Compare, and the powers of 2 of the statements. -/
import Derived.Test.YtaogfoodddkakaaNatC
namespace Go.Proofs.Ytaogfoodddkakaa
open Go.RowKit
namespace Nat'
theorem Compare_any (g c n g' c' n' : Nat) (L M : List Int) (w : World) (hs : Sl w g c L) (hs' : Sl w g' c' M) (hv : VL L) (hv' : VL M) (hn : n = L.length) (hn' : n' = M.length) :
    Calls Try.prog 15 #[.slice (some ⟨g, 0, none⟩) n c, .slice (some ⟨g', 0, none⟩) n' c'] w fun e w' => Told (val L) (val M) e ∧ ∃ m, w' = w.drewN m := by
  have V1 := Lib.hid (valid_any g c n L w hs hv hn)
  have V2 := Lib.hid (valid_any g' c' n' M w hs' hv' hn')
  have C := Lib.hid (compare_any g c n g' c' n' L M w hs hs' hv hv' hn hn')
  clear hs hs' hv hv' hn hn'
  go_enter Try.func15, Try.ntmps15
  go_wp2_with (go_at_call 23; (first | with_reducible refine V1.out.mono ?_ | with_reducible refine V2.out.mono ?_); rintro e w4 ⟨rfl, rfl⟩)
  refine C.out.mono ?_
  rintro e w1 ⟨h | h | h, hd⟩
  · obtain ⟨rfl, h⟩ := h
    replace h := Lib.hid h
    replace hd := Lib.hid hd
    go_wp2
    go_ret
    exact ⟨.inl ⟨rfl, h.out⟩, hd.out⟩
  · obtain ⟨rfl, h⟩ := h
    replace h := Lib.hid h
    replace hd := Lib.hid hd
    go_wp2
    go_ret
    exact ⟨.inr (.inl ⟨rfl, h.out⟩), hd.out⟩
  · obtain ⟨rfl, h⟩ := h
    replace h := Lib.hid h
    replace hd := Lib.hid hd
    go_wp2
    go_ret
    exact ⟨.inr (.inr ⟨rfl, h.out⟩), hd.out⟩
/-- The limbs of a power of 2. -/
def pw (q j : Nat) : List Int := (List.replicate (q + 1) 0).set q (2 ^ j)
theorem pw_length (q j : Nat) : (pw q j).length = q + 1 := by simp [pw]
theorem pw_at (q j i : Nat) : (pw q j).getD i 0 = if i = q then 2 ^ j else 0 := by
  unfold pw
  by_cases h : i = q
  · subst h; simp [List.getD]
  · rw [if_neg h]
    by_cases hi : i < q + 1
    · simp [List.getD, hi, Ne.symm h]
    · rw [getD_out _ _ (by simp; omega)]
theorem pw_vl (q j : Nat) (hj : j < 30) : VL (pw q j) := by
  have b := Ma.pow_bd j 29 (by omega)
  have b2 : (2 : Int) ^ j ≤ 536870912 := b.2
  refine ⟨fun i => ?_, fun i => ?_, ?_⟩
  · rw [pw_at]; split <;> omega
  · rw [pw_at]; split <;> omega
  · rw [pw_length, Nat.add_sub_cancel, pw_at, if_pos rfl]; exact b.1
theorem pw_val (q j : Nat) : val (pw q j) = 2 ^ (30 * q + j) := by
  have z : ∀ k, k ≤ q → valP (pw q j) k = 0 := fun k => by
    induction k with
    | zero => intro _; rfl
    | succ k ih =>
      intro h
      show valP _ k + (pw q j).getD k 0 * B ^ k = 0
      rw [ih (by omega), pw_at, if_neg (by omega), Int.zero_mul]; rfl
  unfold val
  rw [pw_length]
  show valP _ q + (pw q j).getD q 0 * B ^ q = _
  rw [z q (Nat.le_refl _), pw_at, if_pos rfl, Int.zero_add, Int.pow_add, Int.pow_mul, Int.mul_comm]
  rfl
theorem power_any (r : Int) (q j : Nat) (w : World) (hr : r = 30 * q + j) (hq : q ≤ 63) (hj : j < 30) :
    Calls Try.prog 16 #[.int .i64 r] w fun e w' => ∃ g c, e = .returned (.slice (some ⟨g, 0, none⟩) (q + 1) c) ∧ Sl w' g c (pw q j) ∧ Below w.heap.size w w' := by
  obtain ⟨i0, hi, hz0, hz1, hz2⟩ := info_parts infoI
  have e1 : r / 30 = (q : Int) := by omega
  have e2 : r % 30 = (j : Int) := by omega
  have r0 : 0 ≤ r := by omega
  have r1 : r ≤ 10000 := by omega
  have b := Ma.pow_bd j 29 (by omega)
  have b1 : 1 ≤ (2 : Int) ^ j := b.1
  have b2 : (2 : Int) ^ j ≤ 536870912 := b.2
  have q0 : (0 : Int) ≤ (q : Int) := by omega
  have q1 : (q : Int) < (q : Int) + 1 := by omega
  clear hr b
  go_enter Try.func16, Try.ntmps16
  go_wp2_with (refine wpList_make_ints _ rfl _ _ 26 rfl 3 i0 Try.underlying26 hi hz0 hz1 hz2 _ _ (q + 1) rfl rfl (by omega) (by omega) (by omega) ?_; intro w1 hown hb; obtain ⟨c1, f1, _⟩ := row_read hown q (by simp); replace hown := Lib.hid hown; replace hb := Lib.hid hb)
  go_ret
  exact ⟨w.heap.size, q + 1, rfl, Sl.of_own (n := q + 1) (L := pw q j) (row_store hown.out q (2 ^ j)) (by rw [pw_length]; omega) (by rw [pw_length]; omega), hb.out.setCell (Nat.le_refl _) _⟩
end Nat'
end Go.Proofs.Ytaogfoodddkakaa
