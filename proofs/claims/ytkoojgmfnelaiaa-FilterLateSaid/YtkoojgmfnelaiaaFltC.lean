/- Records whose samples begin anywhere in a row: record.timeOf, record.Valid. -/
import Derived.Test.YtkoojgmfnelaiaaRateN
import Derived.Test.YtkoojgmfnelaiaaSrcN
set_option linter.unusedVariables false
set_option linter.unusedSimpArgs false
namespace Go.Proofs.Ytkoojgmfnelaiaa
open Go.RowKit
namespace Flt
open Dice
set_option maxHeartbeats 4000000 in
theorem c12 {w : World} {g : Nat} {a b c d e f s l h p q r : Value} {t : TypeId} (hh : w.heap[g]? = some (.cells #[a, b, c, d, e, f, s, l, h, p, q, r] t (0, 0))) : w.cell? ⟨g, 0, none⟩ = some a ∧ w.cell? ⟨g, 1, none⟩ = some b ∧ w.cell? ⟨g, 2, none⟩ = some c ∧ w.cell? ⟨g, 3, none⟩ = some d ∧ w.cell? ⟨g, 4, none⟩ = some e ∧ w.cell? ⟨g, 5, none⟩ = some f ∧ w.cell? ⟨g, 6, none⟩ = some s ∧ w.cell? ⟨g, 7, none⟩ = some l ∧ w.cell? ⟨g, 8, none⟩ = some h ∧ w.cell? ⟨g, 9, none⟩ = some p ∧ w.cell? ⟨g, 10, none⟩ = some q ∧ w.cell? ⟨g, 11, none⟩ = some r :=
  ⟨cell_of_row w g 0 _ _ _ hh, cell_of_row w g 1 _ _ _ hh, cell_of_row w g 2 _ _ _ hh, cell_of_row w g 3 _ _ _ hh, cell_of_row w g 4 _ _ _ hh, cell_of_row w g 5 _ _ _ hh, cell_of_row w g 6 _ _ _ hh, cell_of_row w g 7 _ _ _ hh, cell_of_row w g 8 _ _ _ hh, cell_of_row w g 9 _ _ _ hh, cell_of_row w g 10 _ _ _ hh, cell_of_row w g 11 _ _ _ hh⟩
theorem hb {w w' : World} {b : Nat} {o : Obj} (h : Below w.heap.size w w') (e : w.heap[b]? = some o) : w'.heap[b]? = some o :=
  (h.block b (Array.getElem?_eq_some_iff.1 e).1).trans e
/-- The numbers of a record that is valid. -/
structure SG (st fi num den er ru se : Int) : Prop where
  st0 : 0 ≤ st
  st9 : st ≤ 4503599627370496
  fi0 : 0 ≤ fi
  fi9 : fi ≤ 1000
  rv : Rate.RV num den
  er0 : 0 ≤ er
  er9 : er ≤ 1000
  ru0 : 0 ≤ ru
  ru9 : ru ≤ 1000
  se0 : 0 ≤ se
  se9 : se ≤ 1000
/-- The samples of a record that is valid. -/
structure RXo (w : World) (b off n c : Nat) (X : Nat → Int) : Prop where
  lt : b < w.heap.size
  sr : ∀ j, j < n → w.cell? ⟨b, off + j, none⟩ = some (.int .i64 (X j))
  h1 : 1 ≤ n
  h9 : n ≤ 1000
  hc : n ≤ c
  c9 : c ≤ maxLen
  ok : ∀ j, j < n → -1073741823 ≤ X j ∧ X j ≤ 1073741823
theorem RXo.keep {w w' : World} {b off n c : Nat} {X : Nat → Int} (h : RXo w b off n c X) (hl : Below w.heap.size w w') : RXo w' b off n c X :=
  ⟨Nat.lt_of_lt_of_le h.lt hl.size, fun j hj => (hl.cell (p := ⟨b, off + j, none⟩) h.lt).trans (h.sr j hj), h.h1, h.h9, h.hc, h.c9, h.ok⟩
theorem RXo.at_ {w : World} {b off n c : Nat} {X : Nat → Int} (h : RXo w b off n c X) {k : Nat} (hk : k < n) : w.cell? ⟨b, off + k, none⟩ = some (.int .i64 (X k)) ∧ -1073741823 ≤ X k ∧ X k ≤ 1073741823 :=
  ⟨h.sr k hk, h.ok k hk⟩
/-- The time of the sample i. -/
def tm (st fi num den i : Int) : Int := st + Rate.el num den (fi + i)
theorem el_small (n d k : Int) (n1 : 1 ≤ n) (d1 : 1 ≤ d) (d2 : d ≤ 4096) (k0 : 0 ≤ k) (k9 : k ≤ 10000) : 0 ≤ Rate.el n d k ∧ Rate.el n d k ≤ 40960000000000 := by
  have m0 : 0 ≤ k * (d * 1000000) := Int.mul_nonneg k0 (by omega)
  have m1 : k * (d * 1000000) ≤ 10000 * 4096000000 := Int.mul_le_mul k9 (by omega) (by omega) (by omega)
  refine ⟨Int.ediv_nonneg m0 (by omega), ?_⟩
  have := Int.ediv_le_self n m0
  unfold Rate.el; omega
theorem tm_bd {st fi num den er ru se : Int} (h : SG st fi num den er ru se) (i : Int) (i0 : 0 ≤ i) (i9 : i ≤ 2000) : 0 ≤ tm st fi num den i ∧ tm st fi num den i ≤ 4772035083370496 := by
  have := el_small num den (fi + i) h.rv.n1 h.rv.d1 h.rv.d2 (by have := h.fi0; omega) (by have := h.fi9; omega)
  have := h.st0
  have := h.st9
  unfold tm
  omega
theorem within_b (n lo hi : Int) (w : World) (h1 : lo ≤ n) (h2 : n ≤ hi) :
    Calls Try.prog 32 #[.int .i64 n, .int .i64 lo, .int .i64 hi] w fun e w' => e = .returned (.bool true) ∧ Below w.heap.size w w' :=
  (Rate.within_yes n lo hi w h1 h2).mono (by rintro e w' ⟨rfl, m, rfl⟩; exact ⟨rfl, Buf.below_drewN (Below.refl _ _) m⟩)
section
variable {S0 S1 S2 S3 : ByteArray} {st fi num den er ru se : Int}
set_option maxHeartbeats 4000000 in
set_option maxRecDepth 100000 in
theorem timeOf_any (P : SG st fi num den er ru se) (b off n c : Nat) (i : Int) (i0 : 0 ≤ i) (i9 : i ≤ 2000) (w : World) :
    Calls Try.prog 61 #[.agg #[.string S0, .string S1, .string S2, .string S3, .int .i64 st, .int .i64 fi, .int .i64 num, .int .i64 den, .int .i64 er, .int .i64 ru, .int .i64 se, .slice (some ⟨b, off, none⟩) n c], .int .i64 i] w fun e w' => e = .returned (.int .i64 (tm st fi num den i)) ∧ Below w.heap.size w w' := by
  have f0 := P.fi0
  have f9 := P.fi9
  have TI := Lib.hid fun w' => Rate.time_ok st num den (fi + i) P.rv w' P.st0 (by have := P.st9; omega) (by omega) (by omega)
  unfold tm
  obtain ⟨w0, hw0e⟩ : ∃ w0, w0 = w.alloc (.cells #[.string S0, .string S1, .string S2, .string S3, .int .i64 st, .int .i64 fi, .int .i64 num, .int .i64 den, .int .i64 er, .int .i64 ru, .int .i64 se, .slice (some ⟨b, off, none⟩) n c] 95) := ⟨_, rfl⟩
  have Y0 : Hid (Below w.heap.size w w0) := Lib.hid (by rw [hw0e]; exact new_block _)
  have KA := Lib.hid (show w0.heap[w.heap.size]? = some (.cells #[.string S0, .string S1, .string S2, .string S3, .int .i64 st, .int .i64 fi, .int .i64 num, .int .i64 den, .int .i64 er, .int .i64 ru, .int .i64 se, .slice (some ⟨b, off, none⟩) n c] 95 (0, 0)) by rw [hw0e]; exact heap_alloc_new w _)
  clear P
  go_enter Try.func61, Try.ntmps61
  go_upto_region 1 with fail
  rw [← hw0e]
  clear hw0e
  obtain ⟨x0, x1, x2, x3, x4, x5, x6, x7, x8, x9, x10, x11⟩ := c12 KA.out
  go_wp2_with (go_at_call 28; with_reducible refine (TI.out _).mono ?_; rintro e w1 ⟨rfl, hc⟩)
  go_ret
  exact ⟨rfl, Buf.then_ Y0.out hc⟩
set_option maxHeartbeats 4000000 in
set_option maxRecDepth 100000 in
theorem valid_any (VS : ∀ w', Calls Try.prog 60 #[.agg #[.string S0, .string S1, .string S2, .string S3]] w' fun e w'' => e = .returned (.bool true) ∧ Below w'.heap.size w' w'') (P : SG st fi num den er ru se) {b off n c : Nat} {Z : Nat → Int} {w : World} (X : RXo w b off n c Z) :
    Calls Try.prog 53 #[.agg #[.string S0, .string S1, .string S2, .string S3, .int .i64 st, .int .i64 fi, .int .i64 num, .int .i64 den, .int .i64 er, .int .i64 ru, .int .i64 se, .slice (some ⟨b, off, none⟩) n c]] w fun e w' => e = .returned (.bool true) ∧ Below w.heap.size w w' := by
  replace VS := Lib.hid VS
  have VR := Lib.hid fun w' => Rate.valid_yes num den P.rv w'
  have VT := Lib.hid fun w' => timeOf_any (S0 := S0) (S1 := S1) (S2 := S2) (S3 := S3) P b off n c (n : Int) (by omega) (by have := X.h9; omega) w'
  have t9 := (tm_bd P (n : Int) (by omega) (by have := X.h9; omega)).2
  generalize tm st fi num den (n : Int) = tn at VT t9
  have gt : (tn > 9007199254740992) = False := by simp; omega
  obtain ⟨st0, st9, fi0, fi9, _, er0, er9, ru0, ru9, se0, se9⟩ := P
  have n1 := X.h1
  have n9 := X.h9
  obtain ⟨w0, hw0e⟩ : ∃ w0, w0 = w.alloc (.cells #[.string S0, .string S1, .string S2, .string S3, .int .i64 st, .int .i64 fi, .int .i64 num, .int .i64 den, .int .i64 er, .int .i64 ru, .int .i64 se, .slice (some ⟨b, off, none⟩) n c] 95) := ⟨_, rfl⟩
  have Y0 : Hid (Below w.heap.size w w0) := Lib.hid (by rw [hw0e]; exact new_block _)
  have KA := Lib.hid (show w0.heap[w.heap.size]? = some (.cells #[.string S0, .string S1, .string S2, .string S3, .int .i64 st, .int .i64 fi, .int .i64 num, .int .i64 den, .int .i64 er, .int .i64 ru, .int .i64 se, .slice (some ⟨b, off, none⟩) n c] 95 (0, 0)) by rw [hw0e]; exact heap_alloc_new w _)
  replace X := Lib.hid (X.keep Y0.out)
  go_enter Try.func53, Try.ntmps53
  go_upto_region 1 with fail
  rw [← hw0e]
  clear hw0e
  obtain ⟨x0, x1, x2, x3, x4, x5, x6, x7, x8, x9, x10, x11⟩ := c12 KA.out
  go_upto_region 8 with (first
    | (go_at_call 60; with_reducible refine (VS.out _).mono ?_; rintro e w1 ⟨rfl, hc⟩; (replace X := Lib.hid (X.out.keep hc)); (replace KA := Lib.hid (hb hc KA.out)); (replace Y0 := Lib.hid (Buf.then_ Y0.out hc)); (clear hc x0 x1 x2 x3 x4 x5 x6 x7 x8 x9 x10 x11); (obtain ⟨x0, x1, x2, x3, x4, x5, x6, x7, x8, x9, x10, x11⟩ := c12 KA.out))
    | (go_at_call 48; with_reducible refine (VR.out _).mono ?_; rintro e w1 ⟨rfl, hc⟩; (replace X := Lib.hid (X.out.keep hc)); (replace KA := Lib.hid (hb hc KA.out)); (replace Y0 := Lib.hid (Buf.then_ Y0.out hc)); (clear hc x0 x1 x2 x3 x4 x5 x6 x7 x8 x9 x10 x11); (obtain ⟨x0, x1, x2, x3, x4, x5, x6, x7, x8, x9, x10, x11⟩ := c12 KA.out))
    | (go_at_call 61; with_reducible refine (VT.out _).mono ?_; rintro e w1 ⟨rfl, hc⟩; (replace X := Lib.hid (X.out.keep hc)); (replace KA := Lib.hid (hb hc KA.out)); (replace Y0 := Lib.hid (Buf.then_ Y0.out hc)); (clear hc x0 x1 x2 x3 x4 x5 x6 x7 x8 x9 x10 x11); (obtain ⟨x0, x1, x2, x3, x4, x5, x6, x7, x8, x9, x10, x11⟩ := c12 KA.out))
    | (go_at_call 32; refine (within_b _ _ _ _ (by omega) (by omega)).mono ?_; rintro e w1 ⟨rfl, hc⟩; (replace X := Lib.hid (X.out.keep hc)); (replace KA := Lib.hid (hb hc KA.out)); (replace Y0 := Lib.hid (Buf.then_ Y0.out hc)); (clear hc x0 x1 x2 x3 x4 x5 x6 x7 x8 x9 x10 x11); (obtain ⟨x0, x1, x2, x3, x4, x5, x6, x7, x8, x9, x10, x11⟩ := c12 KA.out)))
  clear KA VS VR VT t9 gt st0 st9 fi0 fi9 er0 er9 ru0 ru9 se0 se9
  go_wp2_with fail
  clear x0 x1 x2 x3 x4 x5 x6 x7 x8 x9 x10 x11
  go_loopw [61] (fun i wr => ∃ k : Nat, k ≤ n ∧ i = .int .i64 k ∧ Hid (Below w.heap.size w wr) ∧ Hid (RXo wr b off n c Z)) (fun i _ => n - (intOf i).toNat)
  case atStart => exact ⟨0, by omega, rfl, Y0, X⟩
  case round =>
    obtain ⟨k, hk, rfl, hw, hx⟩ := hrel
    by_cases hlt : k < n
    · obtain ⟨c1, d0, d9⟩ := hx.out.at_ hlt
      generalize Z k = d at c1 d0 d9
      have kn : (k : Int) < n := by omega
      go_wp2_with (go_at_call 32; refine (within_b _ _ _ _ (by omega) (by omega)).mono ?_; rintro e w1 ⟨rfl, hc⟩)
      go_roundw
      case rel => exact ⟨k + 1, by omega, by go_num, Lib.hid (Buf.then_ hw.out hc), Lib.hid (hx.out.keep hc)⟩
      case measure => simp [intOf]; omega
    · obtain rfl : k = n := by omega
      go_wp2_with fail
      go_ret
      exact ⟨rfl, hw.out⟩
end
end Flt
end Go.Proofs.Ytkoojgmfnelaiaa
