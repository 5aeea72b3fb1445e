/- LogNat and its reference at any slice. -/
import Derived.Test.YtkfjcanipmhanaaLogG
set_option linter.unusedVariables false
namespace Go.Proofs.Ytkfjcanipmhanaa
open Go.RowKit
namespace Nat'
theorem in_g (x lo hi : Int) (w : World) :
    Calls Try.prog 32 #[.int .i64 x, .int .i64 lo, .int .i64 hi] w fun e w' => e = .returned (.bool (decide (lo ≤ x ∧ x ≤ hi))) ∧ w' = w := by
  by_cases h1 : lo ≤ x
  · by_cases h2 : x ≤ hi
    · rw [decide_eq_true ⟨h1, h2⟩]
      go_enter Try.func32, Try.ntmps32
      go_wp2
      go_ret
      exact ⟨rfl, rfl⟩
    · rw [decide_eq_false (fun h => h2 h.2)]
      go_enter Try.func32, Try.ntmps32
      go_wp2
      go_ret
      exact ⟨rfl, rfl⟩
  · rw [decide_eq_false (fun h => h1 h.1)]
    go_enter Try.func32, Try.ntmps32
    go_wp2
    go_ret
    exact ⟨rfl, rfl⟩
set_option maxHeartbeats 1000000 in
theorem rvalid_g {w : World} {a : Option Addr} {n c : Nat} {L : List Int} (r : Bool) (hs : SA w a n c L) (hr : Hid (r = true ↔ Ok L)) :
    Calls Try.prog 27 #[.slice a n c] w fun e w' => e = .returned (.bool r) ∧ w' = w := by
  have hl := hs.len
  have hnc := hs.nc
  have hn9 := hs.n9
  have CL := Lib.hid hs.cells
  clear hs
  subst hl
  go_enter Try.func27, Try.ntmps27
  go_wp2_with fail
  go_loop [3] (fun i => ∃ k : Nat, k ≤ L.length ∧ i = .int .i64 k ∧ Hid (∀ j, j < k → 0 ≤ L.getD j 0 ∧ L.getD j 0 ≤ 1073741823)) (fun i => (L.length - intOf i).toNat)
  case atStart => exact ⟨0, by omega, rfl, Lib.hid fun j hj => absurd hj (by omega)⟩
  case round =>
    obtain ⟨k, hk, rfl, hg⟩ := hrel
    by_cases hlt : k < L.length
    · have hlt' : (k : Int) < L.length := by omega
      obtain ⟨b, off, rfl, _, hc⟩ := CL.out (by omega)
      have ck := hc k hlt
      obtain ⟨y, hy⟩ : ∃ y, y = L.getD k 0 := ⟨_, rfl⟩
      rw [← hy] at ck
      replace hy := Lib.hid hy
      clear hc
      by_cases y0 : 0 ≤ y ∧ y ≤ 1073741823
      · have hg' : Hid (∀ j, j < k + 1 → 0 ≤ L.getD j 0 ∧ L.getD j 0 ≤ 1073741823) := Lib.hid fun j hj => by
          by_cases e : j = k
          · subst e; rw [← hy.out]; exact y0
          · exact hg.out j (by omega)
        have I : Hid (∀ w, Calls Try.prog 32 #[.int .i64 y, .int .i64 0, .int .i64 1073741823] w fun e w' => e = .returned (.bool true) ∧ w' = w) := Lib.hid fun w => by
          have := in_g y 0 1073741823 w; rwa [decide_eq_true y0] at this
        clear y0
        go_wp2_with (go_at_call 32; (with_reducible refine (I.out _).mono ?_); rintro e w' ⟨rfl, rfl⟩)
        go_round
        case rel => exact ⟨k + 1, by omega, by go_num, hg'⟩
        case measure => simp [intOf]; omega
      · obtain rfl : r = false := by
          cases r
          · rfl
          · have := (hr.out.1 rfl).rng k hlt; rw [← hy.out] at this; exact absurd this y0
        have I : Hid (∀ w, Calls Try.prog 32 #[.int .i64 y, .int .i64 0, .int .i64 1073741823] w fun e w' => e = .returned (.bool false) ∧ w' = w) := Lib.hid fun w => by
          have := in_g y 0 1073741823 w; rwa [decide_eq_false y0] at this
        clear y0
        go_wp2_with (go_at_call 32; (with_reducible refine (I.out _).mono ?_); rintro e w' ⟨rfl, rfl⟩)
        go_ret
        exact ⟨rfl, rfl⟩
    · obtain rfl : k = L.length := by omega
      by_cases h64 : L.length ≤ 64
      · have h64' : (L.length : Int) ≤ 64 := by omega
        by_cases h0 : L.length = 0
        · obtain rfl : r = true := hr.out.2 ⟨h64, hg.out, .inl h0⟩
          have hz : ((L.length : Int) == 0) = true := by rw [h0]; rfl
          go_wp2
          go_ret
          exact ⟨rfl, rfl⟩
        · obtain ⟨b, off, rfl, _, hc⟩ := CL.out (by omega)
          have ck := hc (L.length - 1) (by omega)
          obtain ⟨y, hy⟩ : ∃ y, y = L.getD (L.length - 1) 0 := ⟨_, rfl⟩
          rw [← hy] at ck
          have hyr : Hid ((y != 0) = r) := Lib.hid (by
            by_cases e : y = 0
            · have : r = false := by
                cases r
                · rfl
                · have := (hr.out.1 rfl).last; rw [← hy] at this; omega
              rw [e, this]; rfl
            · have : r = true := hr.out.2 ⟨h64, hg.out, .inr (by rw [← hy]; exact e)⟩
              rw [this]; simpa using e)
          replace hy := Lib.hid hy
          clear hc
          obtain ⟨q, hq⟩ : ∃ q, L.length = q + 1 := ⟨L.length - 1, by omega⟩
          rw [hq, Nat.add_sub_cancel] at ck
          rw [hq]
          rw [hq] at hnc h64'
          replace hq := Lib.hid hq
          have e1 : ((q : Int) + 1 - 1).toNat = q := by omega
          have q9 : (q : Int) ≤ 100 := by have := hq.out; omega
          have q0 : (((q + 1 : Nat) : Int) == 0) = false := by rw [beq_eq_false_iff_ne]; omega
          have q0' : ((q : Int) + 1 == 0) = false := by rw [beq_eq_false_iff_ne]; omega
          clear hk hlt h0 hg hr h64
          go_wp2
          go_ret
          refine ⟨?_, rfl⟩
          rw [hyr.out]
          first | rfl | (show Ending.returned (.bool ((q : Int) + 1 == 0 || r)) = _; rw [q0']; rfl)
      · have h64' : (64 : Int) < L.length := by omega
        obtain rfl : r = false := by
          cases r
          · rfl
          · exact absurd (hr.out.1 rfl).small h64
        go_wp2
        go_ret
        exact ⟨rfl, rfl⟩
end Nat'
namespace Log
open Nat'
/-- LogNat where there are at least two limbs, wherever the slice lies. -/
theorem logNat_two_g {w : World} {a : Option Addr} {c q : Nat} {L : List Int} {k : Nat} {Y : Int} (hs : SA w a (q + 2) c L) (hv : Ok L) (hx : LX (L.getD (q + 1) 0 * 1073741824 + L.getD q 0) k Y) :
    Calls Try.prog 14 #[.slice a (q + 2) c] w fun e w' => e = .returned (.tuple #[.int .i64 (256 * k + Y + 7680 * q), .int .i64 0]) ∧ Below w.heap.size w w' := by
  have V := Lib.hid (valid_g true hs (Lib.hid ⟨fun _ => hv, fun _ => rfl⟩))
  have D := Lib.hid hx.calls
  have hc := hs.nc
  have hl := hs.len
  have h64 := hv.small
  obtain ⟨b, off, rfl, _, cl⟩ := hs.cells (by omega)
  have c1 := cl (q + 1) (by omega)
  have c0 := cl q (by omega)
  obtain ⟨a0, a1⟩ := hv.rng (q + 1) (by omega)
  obtain ⟨b0, b1⟩ := hv.rng q (by omega)
  have y0 := hx.y0
  have y1 := hx.y1
  have k1 := hx.k1
  rw [hl] at h64
  clear hs hv hl hx cl
  generalize L.getD (q + 1) 0 = x1 at *
  generalize L.getD q 0 = x0 at *
  have hor : bits .or .i64 (x1 * 1073741824) x0 = x1 * 1073741824 + x0 := or_limb a0 (by omega) b0 b1
  go_enter Try.func14, Try.ntmps14
  go_wp2_with (go_at_call 25; with_reducible refine V.out.mono ?_; rintro e w' ⟨rfl, rfl⟩)
  have e1 : ((q : Int) + 2 - 1).toNat = q + 1 := by omega
  have e2 : ((q : Int) + 2 - 1 - 1).toNat = q := by omega
  have f1 : IntKind.i64.wrap ((q : Int) + 2 - 1 - 1) = (q : Int) + 2 - 1 - 1 := IntWalk.i64_in _ (by omega)
  have f2 : IntKind.i64.wrap (x1 * 1073741824) = x1 * 1073741824 := IntWalk.i64_in _ (by omega)
  have g1 : (0 : Int) ≤ (q : Int) + 2 - 1 := by omega
  have g2 : (0 : Int) ≤ (q : Int) + 2 - 1 - 1 := by omega
  have g3 : (q : Int) + 2 - 1 < (q : Int) + 2 := by omega
  have g4 : (q : Int) + 2 - 1 - 1 < (q : Int) + 2 := by omega
  go_quiet ((go_at_call 8; exact Calls.quiet_of_same (D.out _)))
  have e3 : (q : Int) + 2 - 1 - 1 = (q : Int) := by omega
  replace e3 := Lib.hid e3
  clear e1 e2 f1 f2 hor
  go_wp2
  go_ret2
  exact ⟨by show Ending.returned (.tuple #[.int .i64 (256 * (k : Int) + Y + 7680 * ((q : Int) + 2 - 1 - 1)), .int .i64 0]) = _; rw [e3.out], Buf.below_drewN (Below.refl _ _) _⟩
theorem logNat_bad {w : World} {a : Option Addr} {n c : Nat} {L : List Int} (hs : SA w a n c L) (hv : ¬ Ok L) :
    Calls Try.prog 14 #[.slice a n c] w fun e w' => e = .returned (.tuple #[.int .i64 0, .int .i64 1]) ∧ Below w.heap.size w w' := by
  have V := Lib.hid (valid_g false hs (Lib.hid ⟨fun h => (by cases h), fun h => absurd h hv⟩))
  clear hs hv
  go_enter Try.func14, Try.ntmps14
  go_wp2_with (go_at_call 25; with_reducible refine V.out.mono ?_; rintro e w' ⟨rfl, rfl⟩)
  go_ret2
  exact ⟨rfl, Below.refl _ _⟩
theorem logNat_nil {w : World} {a : Option Addr} {c : Nat} {L : List Int} (hs : SA w a 0 c L) (hv : Ok L) :
    Calls Try.prog 14 #[.slice a 0 c] w fun e w' => e = .returned (.tuple #[.int .i64 0, .int .i64 2]) ∧ Below w.heap.size w w' := by
  have V := Lib.hid (valid_g true hs (Lib.hid ⟨fun _ => hv, fun _ => rfl⟩))
  have I := Lib.hid (int_small_nil a c L w hs hv)
  have D : Hid (∀ w, Calls Try.prog 8 #[.int .i64 0] w fun e w' => e = .returned (.tuple #[.int .i64 0, .int .i64 2]) ∧ w' = w) := Lib.hid fun w => by
    go_enter Try.func8, Try.ntmps8
    go_wp2
    go_ret2
    exact ⟨rfl, rfl⟩
  clear hs hv
  go_enter Try.func14, Try.ntmps14
  go_wp2_with (go_at_call 25; with_reducible refine V.out.mono ?_; rintro e w' ⟨rfl, rfl⟩)
  refine I.out.mono ?_
  rintro e w1 ⟨rfl, hb⟩
  replace hb := Lib.hid hb
  go_wp2_with fail
  refine (D.out _).mono ?_
  rintro e w2 ⟨rfl, rfl⟩
  go_wp2_with fail
  go_ret2
  exact ⟨rfl, hb.out⟩
theorem logNat_one_g {w : World} {a : Option Addr} {c : Nat} {L : List Int} {k : Nat} {Y : Int} (hs : SA w a 1 c L) (hv : Ok L) (hx : LX (L.getD 0 0) k Y) :
    Calls Try.prog 14 #[.slice a 1 c] w fun e w' => e = .returned (.tuple #[.int .i64 (256 * k + Y), .int .i64 0]) ∧ Below w.heap.size w w' := by
  have V := Lib.hid (valid_g true hs (Lib.hid ⟨fun _ => hv, fun _ => rfl⟩))
  have I := Lib.hid (int_small_one a c L w hs hv)
  have D := Lib.hid hx.calls
  clear hs hv hx
  generalize L.getD 0 0 = n at *
  go_enter Try.func14, Try.ntmps14
  go_wp2_with (go_at_call 25; with_reducible refine V.out.mono ?_; rintro e w' ⟨rfl, rfl⟩)
  refine I.out.mono ?_
  rintro e w1 ⟨rfl, hb⟩
  replace hb := Lib.hid hb
  go_wp2_with fail
  refine (D.out _).mono ?_
  rintro e w2 ⟨rfl, rfl⟩
  go_wp2_with fail
  go_ret2
  exact ⟨rfl, hb.out⟩
end Log
end Go.Proofs.Ytkfjcanipmhanaa
