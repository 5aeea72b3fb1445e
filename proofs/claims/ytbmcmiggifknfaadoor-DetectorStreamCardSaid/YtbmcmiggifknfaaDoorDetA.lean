/- Package detector: Valid, inRange, absolute, reaches. -/
import Derived.Test.YtbmcmiggifknfaaDoorDetD
import Derived.Test.YtbmcmiggifknfaaDoorDetM
import Derived.Test.YtbmcmiggifknfaaDoorWithinN
set_option linter.unusedVariables false
set_option linter.unusedSimpArgs false
namespace Go.Proofs.YtbmcmiggifknfaaDoor
open Go.RowKit Wi Dice
namespace Det
/-- A valid detector. -/
structure DG (d : Dt) : Prop where
  s1 : 1 ≤ d.S
  sl : d.S < d.L
  l9 : d.L ≤ 512
  f1 : 1 ≤ d.off
  fo : d.off ≤ d.on
  o9 : d.on ≤ 10000
theorem valid_yes {S L : Nat} {on off : Int} (h : DG ⟨S, L, on, off⟩) (w : World) :
    Calls Tryd.prog 22 #[.agg #[.int .i64 S, .int .i64 L, .int .i64 on, .int .i64 off]] w fun e w' => e = .returned (.bool true) ∧ Below w.heap.size w w' := by
  obtain ⟨s1, sl, l9, f1, fo, o9⟩ := h
  simp only at s1 sl l9 f1 fo o9
  go_enter Tryd.func22, Tryd.ntmps22
  go_wp2_with fail
  go_ret
  exact ⟨rfl, new_block _⟩
theorem reaches_any {S L : Nat} {on off : Int} (h : DG ⟨S, L, on, off⟩) (sh lo p : Int) (w : World) (s0 : 0 ≤ sh) (s9 : sh ≤ 1099511627776) (l0 : 0 ≤ lo) (l9 : lo ≤ 1099511627776) (p0 : 1 ≤ p) (p9 : p ≤ 10000) :
    Calls Tryd.prog 37 #[.agg #[.int .i64 S, .int .i64 L, .int .i64 on, .int .i64 off], .int .i64 sh, .int .i64 lo, .int .i64 p] w fun e w' => e = .returned (.bool (rch S L sh lo p)) ∧ Below w.heap.size w w' := by
  obtain ⟨s1, sl, ll9, f1, fo, o9⟩ := h
  simp only at s1 sl ll9 f1 fo o9
  have a0 : 0 ≤ 100 * (L : Int) * sh := Int.mul_nonneg (by omega) s0
  have a9 : 100 * (L : Int) * sh ≤ 51200 * 1099511627776 := Int.mul_le_mul (by omega) s9 s0 (by omega)
  have b0 : 0 ≤ p * (S : Int) := Int.mul_nonneg (by omega) (by omega)
  have b9 : p * (S : Int) ≤ 10000 * 512 := Int.mul_le_mul p9 (by omega) (by omega) (by omega)
  have c0 : 0 ≤ p * (S : Int) * lo := Int.mul_nonneg b0 l0
  have c9 : p * (S : Int) * lo ≤ 5120000 * 1099511627776 := Int.mul_le_mul (by omega) l9 l0 (by omega)
  by_cases hz : lo = 0
  · subst hz
    have hr : rch S L sh 0 p = false := by simp [rch]
    rw [hr]
    clear a0 a9 b0 b9 c0 c9 hr
    go_enter Tryd.func37, Tryd.ntmps37
    go_wp2_with fail
    go_ret
    exact ⟨rfl, new_block _⟩
  · have hz' : (lo != 0) = true := by rw [bne_iff_ne]; exact hz
    by_cases hg : p * (S : Int) * lo ≤ 100 * (L : Int) * sh
    · have hr : rch S L sh lo p = true := by simp [rch, hz, hg]
      rw [hr]
      clear hr hz
      go_enter Tryd.func37, Tryd.ntmps37
      go_wp2_with fail
      go_ret
      exact ⟨rfl, new_block _⟩
    · have hr : rch S L sh lo p = false := by simp [rch, hz]; omega
      rw [hr]
      clear hr hz
      go_enter Tryd.func37, Tryd.ntmps37
      go_wp2_with fail
      go_ret
      exact ⟨rfl, new_block _⟩
theorem abs_any (x : Int) (w : World) (h0 : -1073741823 ≤ x) (h1 : x ≤ 1073741823) : Calls Tryd.prog 36 #[.int .i64 x] w fun e w' => e = .returned (.int .i64 (max x (-x))) ∧ w' = w := by
  go_enter Tryd.func36, Tryd.ntmps36
  go_wp2_with fail
  go_ret
  exact ⟨rfl, rfl⟩
theorem inRange_any {w : World} {v : Value} {n : Nat} {X : Nat → Int} (h : SV w v n X) (hn : n ≤ 1000000) (hX : ∀ j, j < n → -1073741823 ≤ X j ∧ X j ≤ 1073741823) :
    Calls Tryd.prog 25 #[v] w fun e w' => e = .returned (.bool true) ∧ Below w.heap.size w w' := by
  obtain ⟨a, c, rfl, h1, h2, h3⟩ := h
  have H3 := Lib.hid h3
  have HX := Lib.hid hX
  clear h3 hX h2
  go_enter Tryd.func25, Tryd.ntmps25
  go_wp2_with fail
  go_loopw [7] (fun i wr => ∃ k : Nat, k ≤ n ∧ i = .int .i64 k ∧ Hid (Below w.heap.size w wr)) (fun i _ => n - (intOf i).toNat)
  case atStart => exact ⟨0, by omega, rfl, Lib.hid (Below.refl _ _)⟩
  case round =>
    obtain ⟨k, hk, rfl, hb⟩ := hrel
    by_cases hlt : k < n
    · obtain ⟨b, off, rfl, hbl, hc⟩ := H3.out (by omega)
      have c1 : wr.cell? ⟨b, off + k, none⟩ = some (.int .i64 (X k)) := by rw [hb.out.cell (p := ⟨b, off + k, none⟩) hbl]; exact hc k hlt
      obtain ⟨x1, x2⟩ := HX.out k hlt
      generalize X k = x at c1 x1 x2
      clear hc
      go_wp2_with (go_at_call 32; refine (within_yes _ _ _ _ (by omega) (by omega)).mono ?_; rintro e w' ⟨rfl, m, rfl⟩)
      go_roundw
      case rel => exact ⟨k + 1, by omega, by go_num, Lib.hid (Buf.below_drewN hb.out _)⟩
      case measure => simp [intOf]; omega
    · obtain rfl : k = n := by omega
      go_wp2_with fail
      go_ret
      exact ⟨rfl, hb.out⟩
end Det
end Go.Proofs.YtbmcmiggifknfaaDoor
