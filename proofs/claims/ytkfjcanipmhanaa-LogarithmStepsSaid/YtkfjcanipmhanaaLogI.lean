/- The reference's LogNat, and that both answer alike. -/
import Derived.Test.YtkfjcanipmhanaaLogH
set_option linter.unusedVariables false
namespace Go.Proofs.Ytkfjcanipmhanaa
open Go.RowKit
namespace Log
open Nat'
theorem rlogNat_bad {w : World} {a : Option Addr} {n c : Nat} {L : List Int} (hs : SA w a n c L) (hv : ¬ Ok L) :
    Calls Try.prog 15 #[.slice a n c] w fun e w' => e = .returned (.tuple #[.int .i64 0, .int .i64 1]) ∧ Below w.heap.size w w' := by
  have V := Lib.hid (rvalid_g false hs (Lib.hid ⟨fun h => (by cases h), fun h => absurd h hv⟩))
  clear hs hv
  go_enter Try.func15, Try.ntmps15
  go_wp2_with (go_at_call 27; with_reducible refine V.out.mono ?_; rintro e w' ⟨rfl, rfl⟩)
  go_ret2
  exact ⟨rfl, Below.refl _ _⟩
theorem rlogNat_nil {w : World} {a : Option Addr} {c : Nat} {L : List Int} (hs : SA w a 0 c L) (hv : Ok L) :
    Calls Try.prog 15 #[.slice a 0 c] w fun e w' => e = .returned (.tuple #[.int .i64 0, .int .i64 2]) ∧ Below w.heap.size w w' := by
  have V := Lib.hid (rvalid_g true hs (Lib.hid ⟨fun _ => hv, fun _ => rfl⟩))
  clear hs hv
  go_enter Try.func15, Try.ntmps15
  go_wp2_with (go_at_call 27; with_reducible refine V.out.mono ?_; rintro e w' ⟨rfl, rfl⟩)
  go_ret2
  exact ⟨rfl, Below.refl _ _⟩
theorem or_zero {d : Int} (d0 : 0 ≤ d) (d9 : d ≤ 1073741823) : bits .or .i64 0 d = d := by
  have := or_limb (T := 0) (by omega) (by omega) d0 d9
  simpa using this
theorem rlogNat_one {w : World} {a : Option Addr} {c : Nat} {L : List Int} {k : Nat} {Y : Int} (hs : SA w a 1 c L) (hv : Ok L) (hx : LX (L.getD 0 0) k Y) :
    Calls Try.prog 15 #[.slice a 1 c] w fun e w' => e = .returned (.tuple #[.int .i64 (256 * k + Y), .int .i64 0]) ∧ Below w.heap.size w w' := by
  have V := Lib.hid (rvalid_g true hs (Lib.hid ⟨fun _ => hv, fun _ => rfl⟩))
  have hl := hs.len
  have hnc := hs.nc
  obtain ⟨b, off, rfl, _, cl⟩ := hs.cells (by omega)
  have c0 : w.cell? ⟨b, off, none⟩ = some (.int .i64 (L.getD 0 0)) := by simpa using cl 0 (by omega)
  obtain ⟨d0, d9⟩ := hv.rng 0 (by omega)
  have D := Lib.hid fun w => rlog_any hx (by omega) w
  clear hs hv hx cl hl
  generalize L.getD 0 0 = n at *
  have hor := or_zero d0 d9
  go_enter Try.func15, Try.ntmps15
  go_wp2_with (go_at_call 27; with_reducible refine V.out.mono ?_; rintro e w' ⟨rfl, rfl⟩)
  go_loop [4, 5] (fun x i => (x = .int .i64 0 ∧ i = .int .i64 0) ∨ (x = .int .i64 n ∧ i = .int .i64 (-1))) (fun _ i => (intOf i + 1).toNat)
  case atStart => exact .inl ⟨rfl, rfl⟩
  case round =>
    rcases hrel with ⟨rfl, rfl⟩ | ⟨rfl, rfl⟩
    · go_wp2
      go_round
      case rel => exact .inr ⟨by first | rfl | rw [hor], rfl⟩
      case measure => simp [intOf]
    · go_wp2_with fail
      refine (D.out _).mono ?_
      rintro e w2 ⟨rfl, rfl⟩
      go_wp2_with fail
      go_ret2
      exact ⟨rfl, Below.refl _ _⟩
theorem rlogNat_two {w : World} {a : Option Addr} {c : Nat} {L : List Int} {k : Nat} {Y : Int} (hs : SA w a 2 c L) (hv : Ok L) (hx : LX (L.getD 1 0 * 1073741824 + L.getD 0 0) k Y) :
    Calls Try.prog 15 #[.slice a 2 c] w fun e w' => e = .returned (.tuple #[.int .i64 (256 * k + Y), .int .i64 0]) ∧ Below w.heap.size w w' := by
  have V := Lib.hid (rvalid_g true hs (Lib.hid ⟨fun _ => hv, fun _ => rfl⟩))
  have hl := hs.len
  have hnc := hs.nc
  obtain ⟨b, off, rfl, _, cl⟩ := hs.cells (by omega)
  have c0 : w.cell? ⟨b, off, none⟩ = some (.int .i64 (L.getD 0 0)) := by simpa using cl 0 (by omega)
  have c1 := cl 1 (by omega)
  obtain ⟨d0, d9⟩ := hv.rng 0 (by omega)
  obtain ⟨e0, e9⟩ := hv.rng 1 (by omega)
  have D := Lib.hid fun w => rlog_any hx (by omega) w
  clear hs hv hx cl hl
  generalize L.getD 0 0 = n at *
  generalize L.getD 1 0 = m at *
  have hor := or_zero e0 e9
  have hor2 : bits .or .i64 (m * 1073741824) n = m * 1073741824 + n := or_limb e0 (by omega) d0 d9
  go_enter Try.func15, Try.ntmps15
  go_wp2_with (go_at_call 27; with_reducible refine V.out.mono ?_; rintro e w' ⟨rfl, rfl⟩)
  go_loop [4, 5] (fun x i => (x = .int .i64 0 ∧ i = .int .i64 1) ∨ (x = .int .i64 m ∧ i = .int .i64 0) ∨ (x = .int .i64 (m * 1073741824 + n) ∧ i = .int .i64 (-1))) (fun _ i => (intOf i + 1).toNat)
  case atStart => exact .inl ⟨rfl, rfl⟩
  case round =>
    rcases hrel with ⟨rfl, rfl⟩ | ⟨rfl, rfl⟩ | ⟨rfl, rfl⟩
    · go_wp2
      go_round
      case rel => exact .inr (.inl ⟨by first | rfl | rw [hor], rfl⟩)
      case measure => simp [intOf]
    · go_wp2
      go_round
      case rel => exact .inr (.inr ⟨by first | rfl | rw [hor2], rfl⟩)
      case measure => simp [intOf]
    · go_wp2_with fail
      refine (D.out _).mono ?_
      rintro e w2 ⟨rfl, rfl⟩
      go_wp2_with fail
      go_ret2
      exact ⟨rfl, Below.refl _ _⟩
theorem rlogNat_more {w : World} {a : Option Addr} {c q : Nat} {L : List Int} {k : Nat} {Y : Int} (hs : SA w a (q + 2) c L) (hq : 1 ≤ q) (hv : Ok L) (hx : LX (L.getD (q + 1) 0 * 1073741824 + L.getD q 0) k Y) :
    Calls Try.prog 15 #[.slice a (q + 2) c] w fun e w' => e = .returned (.tuple #[.int .i64 (256 * k + Y + 7680 * q), .int .i64 0]) ∧ Below w.heap.size w w' := by
  have V := Lib.hid (rvalid_g true hs (Lib.hid ⟨fun _ => hv, fun _ => rfl⟩))
  have hc := hs.nc
  have hl := hs.len
  have h64 := hv.small
  obtain ⟨b, off, rfl, _, cl⟩ := hs.cells (by omega)
  have c1 := cl (q + 1) (by omega)
  have c0 := cl q (by omega)
  obtain ⟨a0, a1⟩ := hv.rng (q + 1) (by omega)
  obtain ⟨b0, b1⟩ := hv.rng q (by omega)
  have a2 : 1 ≤ L.getD (q + 1) 0 := by
    rcases hv.last with h | h
    · omega
    · rw [hl, show q + 2 - 1 = q + 1 by omega] at h; omega
  have y0 := hx.y0
  have y1 := hx.y1
  have k1 := hx.k1
  rw [hl] at h64
  clear hs hv hl cl
  generalize L.getD (q + 1) 0 = x1 at *
  generalize L.getD q 0 = x0 at *
  have hor : bits .or .i64 (x1 * 1073741824) x0 = x1 * 1073741824 + x0 := or_limb a0 (by omega) b0 b1
  have n0 : 1073741824 ≤ x1 * 1073741824 + x0 := by omega
  have n9 : x1 * 1073741824 + x0 ≤ 4611686018427387904 := by omega
  have D := Lib.hid fun w => rdigits_any (x1 * 1073741824 + x0) k w k1 hx.lo hx.hi (by omega)
  have k30 : 30 ≤ k := by
    by_cases h : 30 ≤ k
    · exact h
    · have h1 := (Ma.pow_bd (k + 1) 30 (by omega)).2
      have h2 : (2 : Int) ^ 30 = 1073741824 := by decide
      have := hx.hi; omega
  have hM : mant (x1 * 1073741824 + x0) k = (x1 * 1073741824 + x0) / 2 ^ (k - 30) := by
    unfold mant
    by_cases h : k = 30
    · subst h; rw [if_pos (by omega)]; show _ * (1 : Int) = _ / 1; omega
    · rw [if_neg (by omega)]
  obtain ⟨m0, m1⟩ := mant_bd (x1 * 1073741824 + x0) k hx.lo hx.hi
  have S : Hid (∀ w, Calls Try.prog 23 #[.int .i64 (30 * (q : Int) + ((k : Int) + 1) - 1), .int .i64 ((x1 * 1073741824 + x0) / 2 ^ (k - 30))] w fun e w' => e = .returned (.int .i64 (256 * (30 * (q : Int) + ((k : Int) + 1) - 1) + Y)) ∧ w' = w) := Lib.hid fun w => by
    rw [hx.y, ← hM]; exact rsteps_any _ _ w (by omega) (by omega) m0 m1
  clear hx hM m0 m1
  go_enter Try.func15, Try.ntmps15
  go_wp2_with (go_at_call 27; with_reducible refine V.out.mono ?_; rintro e w' ⟨rfl, rfl⟩)
  have e1 : ((q : Int) + 2 - 1).toNat = q + 1 := by omega
  have e2 : ((q : Int) + 2 - 2).toNat = q := by omega
  have f1 : IntKind.i64.wrap ((q : Int) + 2 - 2) = (q : Int) + 2 - 2 := IntWalk.i64_in _ (by omega)
  have f3 : IntKind.i64.wrap ((q : Int) + 2 - 1) = (q : Int) + 2 - 1 := IntWalk.i64_in _ (by omega)
  have f2 : IntKind.i64.wrap (x1 * 1073741824) = x1 * 1073741824 := IntWalk.i64_in _ (by omega)
  have g1 : (0 : Int) ≤ (q : Int) + 2 - 1 := by omega
  have g2 : (0 : Int) ≤ (q : Int) + 2 - 2 := by omega
  have g3 : (q : Int) + 2 - 1 < (q : Int) + 2 := by omega
  have g4 : (q : Int) + 2 - 2 < (q : Int) + 2 := by omega
  go_quiet (fail)
  go_wp2_with fail
  refine (D.out _).mono ?_
  rintro e w2 ⟨rfl, rfl⟩
  clear e1 e2 f1 f2 f3 hor
  go_wp2_with fail
  refine (S.out _).mono ?_
  rintro e w3 ⟨rfl, rfl⟩
  have e3 : 256 * (30 * (q : Int) + ((k : Int) + 1) - 1) + Y = 256 * (k : Int) + Y + 7680 * (q : Int) := by omega
  replace e3 := Lib.hid e3
  go_wp2
  go_ret2
  exact ⟨by rw [← e3.out]; rfl, Buf.below_drewN (Below.refl _ _) _⟩
/-- The same answer of both, wherever the limbs lie. -/
def LNSame (n c : Nat) (L : List Int) (x y : Int) : Prop := ∀ (w : World) (a : Option Addr), SA w a n c L →
  (Calls Try.prog 14 #[.slice a n c] w fun e w' => e = .returned (.tuple #[.int .i64 x, .int .i64 y]) ∧ Below w.heap.size w w') ∧
  Calls Try.prog 15 #[.slice a n c] w fun e w' => e = .returned (.tuple #[.int .i64 x, .int .i64 y]) ∧ Below w.heap.size w w'
theorem logNat_same (n c : Nat) (L : List Int) (hl : L.length = n) : ∃ x y, LNSame n c L x y := by
  by_cases hv : Ok L
  · by_cases h0 : n = 0
    · subst h0; exact ⟨0, 2, fun w a hs => ⟨logNat_nil hs hv, rlogNat_nil hs hv⟩⟩
    have last : L.getD (n - 1) 0 ≠ 0 := by
      rcases hv.last with h | h
      · omega
      · rwa [hl] at h
    obtain ⟨t0, t9⟩ := hv.rng (n - 1) (by omega)
    by_cases h1 : n = 1
    · subst h1
      rw [show 1 - 1 = 0 by omega] at last t0 t9
      obtain ⟨k, Y, hx⟩ := lx_of (L.getD 0 0) (by omega) (by omega)
      exact ⟨_, _, fun w a hs => ⟨logNat_one_g hs hv hx, rlogNat_one hs hv hx⟩⟩
    obtain ⟨q, rfl⟩ : ∃ q, n = q + 2 := ⟨n - 2, by omega⟩
    rw [show q + 2 - 1 = q + 1 by omega] at last t0 t9
    obtain ⟨u0, u9⟩ := hv.rng q (by omega)
    obtain ⟨k, Y, hx⟩ := lx_of (L.getD (q + 1) 0 * 1073741824 + L.getD q 0) (by omega) (by omega)
    by_cases hq : q = 0
    · subst hq
      refine ⟨256 * k + Y, 0, fun w a hs => ⟨?_, rlogNat_two hs hv hx⟩⟩
      have := logNat_two_g hs hv hx
      refine this.mono ?_
      rintro e w' ⟨rfl, hb⟩
      exact ⟨by simp, hb⟩
    · exact ⟨_, _, fun w a hs => ⟨logNat_two_g hs hv hx, rlogNat_more hs (by omega) hv hx⟩⟩
  · exact ⟨0, 1, fun w a hs => ⟨logNat_bad hs hv, rlogNat_bad hs hv⟩⟩
end Log
end Go.Proofs.Ytkfjcanipmhanaa
