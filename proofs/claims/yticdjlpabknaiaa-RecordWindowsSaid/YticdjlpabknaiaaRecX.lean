/- The references of identifiers and records: Valid, Time, At, Span. -/
import Derived.Test.YticdjlpabknaiaaRecH
import Derived.Test.YticdjlpabknaiaaFltR
import Derived.Test.YticdjlpabknaiaaInvB
set_option linter.unusedVariables false
set_option linter.unusedSimpArgs false
namespace Go.Proofs.Yticdjlpabknaiaa
open Go.RowKit
namespace Rec
open Dice
theorem ref_code_yes (l : List UInt8) (n : Nat) (hn : n = l.length) (lo hi : Int) (h0 : lo ≤ n) (h1 : (n : Int) ≤ hi) (h9 : n ≤ 1000) (h : Sc.Code l) (w : World) :
    Calls Try.prog 56 #[.string ⟨⟨l⟩⟩, .int .i64 lo, .int .i64 hi] w fun e w' => e = .returned (.bool true) ∧ Below w.heap.size w w' := by
  have HC := Lib.hid h
  have hsz : (ByteArray.mk ⟨l⟩).size = n := by rw [hn]; rfl
  replace hn := Lib.hid hn
  clear h
  go_enter Try.func56, Try.ntmps56
  go_wp2_with fail
  go_loopw [7] (fun i wr => ∃ k : Nat, k ≤ n ∧ i = .int .i64 k ∧ Hid (Below w.heap.size w wr)) (fun i _ => n - (intOf i).toNat)
  case atStart => exact ⟨0, Nat.zero_le _, rfl, Lib.hid (Below.refl _ _)⟩
  case round =>
    obtain ⟨k, hk, rfl, hB⟩ := hrel
    by_cases hlt : k < n
    · obtain ⟨b, hb_⟩ : ∃ b, l[k]? = some b := ⟨l[k]'(by rw [← hn.out]; exact hlt), List.getElem?_eq_getElem _⟩
      have bi : (k : Int) < n := by omega
      have hcap := of_decide_eq_true (HC.out k b hb_)
      have hk' : k < (ByteArray.mk ⟨l⟩).size := by rw [hsz]; exact hlt
      have hby := Sc.byte_at hb_ hk'
      replace hb_ := Lib.hid hb_
      obtain ⟨x, hx⟩ : ∃ x : Int, ((b.toNat : Nat) : Int) = x := ⟨_, rfl⟩
      rcases hcap with ⟨g1, g2⟩ | ⟨g1, g2⟩
      · rw [hx] at g1 g2
        go_wp2_with fail
        go_roundw
        case rel => exact ⟨k + 1, by omega, by go_num, hB⟩
        case measure => simp [intOf]; omega
      · rw [hx] at g1 g2
        have g3 : ¬ (65 : Int) ≤ x := by omega
        go_wp2_with fail
        go_roundw
        case rel => exact ⟨k + 1, by omega, by go_num, hB⟩
        case measure => simp [intOf]; omega
    · obtain rfl : k = n := by omega
      go_wp2
      go_ret
      exact ⟨rfl, hB.out⟩
set_option maxHeartbeats 4000000 in
theorem ref_source_yes {s0 s1 s2 s3 : List UInt8} (h : Sc.Src4 s0 s1 s2 s3) (w : World) :
    Calls Try.prog 45 #[.agg #[.string ⟨⟨s0⟩⟩, .string ⟨⟨s1⟩⟩, .string ⟨⟨s2⟩⟩, .string ⟨⟨s3⟩⟩]] w fun e w' => e = .returned (.bool true) ∧ Below w.heap.size w w' := by
  have I0 := Lib.hid fun w' => ref_code_yes s0 s0.length rfl 1 2 (by have := h.l0; omega) (by have := h.l0; omega) (by have := h.l0; omega) h.c0 w'
  have I1 := Lib.hid fun w' => ref_code_yes s1 s1.length rfl 1 5 (by have := h.l1; omega) (by have := h.l1; omega) (by have := h.l1; omega) h.c1 w'
  have I3 := Lib.hid fun w' => ref_code_yes s3 s3.length rfl 3 3 (by have := h.l3; omega) (by have := h.l3; omega) (by have := h.l3; omega) h.c3 w'
  obtain ⟨wb, hwb⟩ : ∃ wb, wb = w.alloc (.cells #[.string ⟨⟨s0⟩⟩, .string ⟨⟨s1⟩⟩, .string ⟨⟨s2⟩⟩, .string ⟨⟨s3⟩⟩] 28) := ⟨_, rfl⟩
  have W1 := Lib.hid (show Below w.heap.size w wb by rw [hwb]; exact new_block _)
  have KA := Lib.hid (show wb.heap[w.heap.size]? = some (.cells #[.string ⟨⟨s0⟩⟩, .string ⟨⟨s1⟩⟩, .string ⟨⟨s2⟩⟩, .string ⟨⟨s3⟩⟩] 28 (0, 0)) by rw [hwb]; exact heap_alloc_new w _)
  rcases h.l2 with h2 | h2
  · obtain rfl : s2 = [] := List.length_eq_zero_iff.1 h2
    clear h h2
    obtain ⟨k0, k1, k2, k3⟩ := Rec.c4 KA.out
    go_enter Try.func45, Try.ntmps45
    go_upto_region 1 with fail
    rw [← hwb]
    clear hwb
    go_wp2_with (go_at_call 56; first
      | (with_reducible refine (I0.out _).mono ?_; rintro e w9 ⟨rfl, hc⟩; (replace KA := Lib.hid (hb hc KA.out)); (replace W1 := Lib.hid (Buf.then_ W1.out hc)); (clear hc k0 k1 k2 k3); (obtain ⟨k0, k1, k2, k3⟩ := Rec.c4 KA.out))
      | (with_reducible refine (I1.out _).mono ?_; rintro e w9 ⟨rfl, hc⟩; (replace KA := Lib.hid (hb hc KA.out)); (replace W1 := Lib.hid (Buf.then_ W1.out hc)); (clear hc k0 k1 k2 k3); (obtain ⟨k0, k1, k2, k3⟩ := Rec.c4 KA.out))
      | (with_reducible refine (I3.out _).mono ?_; rintro e w9 ⟨rfl, hc⟩; (replace KA := Lib.hid (hb hc KA.out)); (replace W1 := Lib.hid (Buf.then_ W1.out hc)); (clear hc k0 k1 k2 k3); (obtain ⟨k0, k1, k2, k3⟩ := Rec.c4 KA.out)))
    go_ret
    exact ⟨rfl, W1.out⟩
  · obtain ⟨x, y, rfl⟩ : ∃ x y, s2 = [x, y] := by
      match s2, h2 with
      | [x, y], _ => exact ⟨x, y, rfl⟩
    have I2 := Lib.hid fun w' => ref_code_yes [x, y] 2 rfl 2 2 (by decide) (by decide) (by decide) h.c2 w'
    clear h h2
    obtain ⟨k0, k1, k2, k3⟩ := Rec.c4 KA.out
    go_enter Try.func45, Try.ntmps45
    go_upto_region 1 with fail
    rw [← hwb]
    clear hwb
    go_wp2_with (go_at_call 56; first
      | (with_reducible refine (I0.out _).mono ?_; rintro e w9 ⟨rfl, hc⟩; (replace KA := Lib.hid (hb hc KA.out)); (replace W1 := Lib.hid (Buf.then_ W1.out hc)); (clear hc k0 k1 k2 k3); (obtain ⟨k0, k1, k2, k3⟩ := Rec.c4 KA.out))
      | (with_reducible refine (I1.out _).mono ?_; rintro e w9 ⟨rfl, hc⟩; (replace KA := Lib.hid (hb hc KA.out)); (replace W1 := Lib.hid (Buf.then_ W1.out hc)); (clear hc k0 k1 k2 k3); (obtain ⟨k0, k1, k2, k3⟩ := Rec.c4 KA.out))
      | (with_reducible refine (I2.out _).mono ?_; rintro e w9 ⟨rfl, hc⟩; (replace KA := Lib.hid (hb hc KA.out)); (replace W1 := Lib.hid (Buf.then_ W1.out hc)); (clear hc k0 k1 k2 k3); (obtain ⟨k0, k1, k2, k3⟩ := Rec.c4 KA.out))
      | (with_reducible refine (I3.out _).mono ?_; rintro e w9 ⟨rfl, hc⟩; (replace KA := Lib.hid (hb hc KA.out)); (replace W1 := Lib.hid (Buf.then_ W1.out hc)); (clear hc k0 k1 k2 k3); (obtain ⟨k0, k1, k2, k3⟩ := Rec.c4 KA.out)))
    go_ret
    exact ⟨rfl, W1.out⟩
theorem in_b (n lo hi : Int) (w : World) (h1 : lo ≤ n) (h2 : n ≤ hi) :
    Calls Try.prog 34 #[.int .i64 n, .int .i64 lo, .int .i64 hi] w fun e w' => e = .returned (.bool true) ∧ Below w.heap.size w w' :=
  (Rate.in_yes n lo hi w h1 h2).mono (by rintro e w' ⟨rfl, m, rfl⟩; exact ⟨rfl, Buf.below_drewN (Below.refl _ _) m⟩)
theorem sample_b (n : Int) (w : World) (h1 : -1073741823 ≤ n) (h2 : n ≤ 1073741823) :
    Calls Try.prog 57 #[.int .i64 n] w fun e w' => e = .returned (.bool true) ∧ Below w.heap.size w w' := by
  go_enter Try.func57, Try.ntmps57
  go_wp2_with (go_at_call 34; refine (in_b _ _ _ _ (by omega) (by omega)).mono ?_; rintro e w' ⟨rfl, hc⟩)
  go_ret
  exact ⟨rfl, hc⟩
theorem refin_yes {b n c : Nat} {xs : List Int} {w : World} (X : RX w b n c xs) :
    Calls Try.prog 47 #[.slice (some ⟨b, 0, none⟩) n c] w fun e w' => e = .returned (.bool true) ∧ Below w.heap.size w w' := by
  have n9 := X.h9
  have nc := X.hc
  have XX := Lib.hid fun (w' : World) (h' : Below w.heap.size w w') => X.keep h'
  clear X
  go_enter Try.func47, Try.ntmps47
  go_wp2_with fail
  go_loopw [3] (fun i wr => ∃ k : Nat, k ≤ n ∧ i = .int .i64 k ∧ Hid (Below w.heap.size w wr)) (fun i _ => n - (intOf i).toNat)
  case atStart => exact ⟨0, by omega, rfl, Lib.hid (Below.refl _ _)⟩
  case round =>
    obtain ⟨k, hk, rfl, hB⟩ := hrel
    by_cases hlt : k < n
    · obtain ⟨c1, x1, x2⟩ := (XX.out _ hB.out).at_ hlt
      generalize xs.getD k 0 = x at c1 x1 x2
      have kn : (k : Int) < n := by omega
      go_wp2_with fail
      refine (sample_b x _ x1 x2).mono ?_
      rintro e w2 ⟨rfl, hb2⟩
      replace hB := Lib.hid (Buf.then_ hB.out hb2)
      clear hb2 c1
      go_wp2_with fail
      go_roundw
      case rel => exact ⟨k + 1, by omega, by go_num, hB⟩
      case measure => simp [intOf]; omega
    · obtain rfl : k = n := by omega
      go_wp2_with fail
      go_ret
      exact ⟨rfl, hB.out⟩
section
variable {s0 s1 s2 s3 : List UInt8} {st fi num den er ru se : Int}
set_option maxHeartbeats 4000000 in
set_option maxRecDepth 100000 in
theorem refTime_any (P : RP s0 s1 s2 s3 st fi num den er ru se) (b n c : Nat) (i : Int) (i0 : 0 ≤ i) (i9 : i ≤ 2000) (w : World) :
    Calls Try.prog 28 #[.agg #[.string ⟨s0.toArray⟩, .string ⟨s1.toArray⟩, .string ⟨s2.toArray⟩, .string ⟨s3.toArray⟩, .int .i64 st, .int .i64 fi, .int .i64 num, .int .i64 den, .int .i64 er, .int .i64 ru, .int .i64 se, .slice (some ⟨b, 0, none⟩) n c], .int .i64 i] w fun e w' => e = .returned (.int .i64 (tm st fi num den i)) ∧ Below w.heap.size w w' := by
  have f0 := P.fi0
  have f9 := P.fi9
  have TI := Lib.hid fun w' => Rate.ref_time_ok st num den (fi + i) P.rv w' P.st0 (by have := P.st9; omega) (by omega) (by omega)
  unfold tm
  obtain ⟨w0, hw0e⟩ : ∃ w0, w0 = w.alloc (.cells #[.string ⟨s0.toArray⟩, .string ⟨s1.toArray⟩, .string ⟨s2.toArray⟩, .string ⟨s3.toArray⟩, .int .i64 st, .int .i64 fi, .int .i64 num, .int .i64 den, .int .i64 er, .int .i64 ru, .int .i64 se, .slice (some ⟨b, 0, none⟩) n c] 32) := ⟨_, rfl⟩
  have Y0 : Hid (Below w.heap.size w w0) := Lib.hid (by rw [hw0e]; exact new_block _)
  have KA := Lib.hid (show w0.heap[w.heap.size]? = some (.cells #[.string ⟨s0.toArray⟩, .string ⟨s1.toArray⟩, .string ⟨s2.toArray⟩, .string ⟨s3.toArray⟩, .int .i64 st, .int .i64 fi, .int .i64 num, .int .i64 den, .int .i64 er, .int .i64 ru, .int .i64 se, .slice (some ⟨b, 0, none⟩) n c] 32 (0, 0)) by rw [hw0e]; exact heap_alloc_new w _)
  clear P
  go_enter Try.func28, Try.ntmps28
  go_upto_region 1 with fail
  rw [← hw0e]
  clear hw0e
  obtain ⟨x0, x1, x2, x3, x4, x5, x6, x7, x8, x9, x10, x11⟩ := c12 KA.out
  go_wp2_with (go_at_call 48; with_reducible refine (TI.out _).mono ?_; rintro e w1 ⟨rfl, hc⟩)
  go_ret
  exact ⟨rfl, Buf.then_ Y0.out hc⟩
set_option maxHeartbeats 4000000 in
set_option maxRecDepth 100000 in
theorem refrec_yes (P : RP s0 s1 s2 s3 st fi num den er ru se) {b n c : Nat} {xs : List Int} {w : World} (X : RX w b n c xs) :
    Calls Try.prog 27 #[.agg #[.string ⟨s0.toArray⟩, .string ⟨s1.toArray⟩, .string ⟨s2.toArray⟩, .string ⟨s3.toArray⟩, .int .i64 st, .int .i64 fi, .int .i64 num, .int .i64 den, .int .i64 er, .int .i64 ru, .int .i64 se, .slice (some ⟨b, 0, none⟩) n c]] w fun e w' => e = .returned (.bool true) ∧ Below w.heap.size w w' := by
  have VS := Lib.hid fun w' => ref_source_yes P.src w'
  have VR := Lib.hid fun w' => Rate.ref_valid_yes num den P.rv w'
  have VT := Lib.hid fun w' => refTime_any P b n c (n : Int) (by omega) (by have := X.h9; omega) w'
  have VI := Lib.hid fun (w' : World) (h' : RX w' b n c xs) => refin_yes h'
  have t9 := (tm_bd P (n : Int) (by omega) (by have := X.h9; omega)).2
  generalize tm st fi num den (n : Int) = tn at VT t9
  have gt : decide (tn ≤ 9007199254740992) = true := decide_eq_true (by omega)
  obtain ⟨_, st0, st9, fi0, fi9, _, er0, er9, ru0, ru9, se0, se9⟩ := P
  have n1 := X.h1
  have n9 := X.h9
  obtain ⟨w0, hw0e⟩ : ∃ w0, w0 = w.alloc (.cells #[.string ⟨s0.toArray⟩, .string ⟨s1.toArray⟩, .string ⟨s2.toArray⟩, .string ⟨s3.toArray⟩, .int .i64 st, .int .i64 fi, .int .i64 num, .int .i64 den, .int .i64 er, .int .i64 ru, .int .i64 se, .slice (some ⟨b, 0, none⟩) n c] 32) := ⟨_, rfl⟩
  have Y0 : Hid (Below w.heap.size w w0) := Lib.hid (by rw [hw0e]; exact new_block _)
  have KA := Lib.hid (show w0.heap[w.heap.size]? = some (.cells #[.string ⟨s0.toArray⟩, .string ⟨s1.toArray⟩, .string ⟨s2.toArray⟩, .string ⟨s3.toArray⟩, .int .i64 st, .int .i64 fi, .int .i64 num, .int .i64 den, .int .i64 er, .int .i64 ru, .int .i64 se, .slice (some ⟨b, 0, none⟩) n c] 32 (0, 0)) by rw [hw0e]; exact heap_alloc_new w _)
  replace X := Lib.hid (X.keep Y0.out)
  go_enter Try.func27, Try.ntmps27
  go_upto_region 1 with fail
  rw [← hw0e]
  clear hw0e
  obtain ⟨x0, x1, x2, x3, x4, x5, x6, x7, x8, x9, x10, x11⟩ := c12 KA.out
  go_wp2_with (first
    | ((with_reducible refine Mid.ldrg 32 (.tmp 1) w.heap.size 32 #[.string ⟨s0.toArray⟩, .string ⟨s1.toArray⟩, .string ⟨s2.toArray⟩, .string ⟨s3.toArray⟩, .int .i64 st, .int .i64 fi, .int .i64 num, .int .i64 den, .int .i64 er, .int .i64 ru, .int .i64 se, .slice (some ⟨b, 0, none⟩) n c] KA.out ?_ ?_ ?_ ?_ ?_ ?_); (· rfl); (· first | rfl | simp [Region.wanted, yielded]); (· first | rfl | simp [Act.eval]); (· exact ⟨_, rfl, rfl⟩); (· kernel_rfl))
    | (go_at_call 45; with_reducible refine (VS.out _).mono ?_; rintro e w1 ⟨rfl, hc⟩; (replace X := Lib.hid (X.out.keep hc)); (replace KA := Lib.hid (hb hc KA.out)); (replace Y0 := Lib.hid (Buf.then_ Y0.out hc)); (clear hc x0 x1 x2 x3 x4 x5 x6 x7 x8 x9 x10 x11); (obtain ⟨x0, x1, x2, x3, x4, x5, x6, x7, x8, x9, x10, x11⟩ := c12 KA.out))
    | (go_at_call 46; with_reducible refine (VR.out _).mono ?_; rintro e w1 ⟨rfl, hc⟩; (replace X := Lib.hid (X.out.keep hc)); (replace KA := Lib.hid (hb hc KA.out)); (replace Y0 := Lib.hid (Buf.then_ Y0.out hc)); (clear hc x0 x1 x2 x3 x4 x5 x6 x7 x8 x9 x10 x11); (obtain ⟨x0, x1, x2, x3, x4, x5, x6, x7, x8, x9, x10, x11⟩ := c12 KA.out))
    | (go_at_call 28; with_reducible refine (VT.out _).mono ?_; rintro e w1 ⟨rfl, hc⟩; (replace X := Lib.hid (X.out.keep hc)); (replace KA := Lib.hid (hb hc KA.out)); (replace Y0 := Lib.hid (Buf.then_ Y0.out hc)); (clear hc x0 x1 x2 x3 x4 x5 x6 x7 x8 x9 x10 x11); (obtain ⟨x0, x1, x2, x3, x4, x5, x6, x7, x8, x9, x10, x11⟩ := c12 KA.out))
    | (go_at_call 47; with_reducible refine (VI.out _ X.out).mono ?_; rintro e w1 ⟨rfl, hc⟩; (replace X := Lib.hid (X.out.keep hc)); (replace KA := Lib.hid (hb hc KA.out)); (replace Y0 := Lib.hid (Buf.then_ Y0.out hc)); (clear hc x0 x1 x2 x3 x4 x5 x6 x7 x8 x9 x10 x11); (obtain ⟨x0, x1, x2, x3, x4, x5, x6, x7, x8, x9, x10, x11⟩ := c12 KA.out))
    | (go_at_call 34; refine (in_b _ _ _ _ (by omega) (by omega)).mono ?_; rintro e w1 ⟨rfl, hc⟩; (replace X := Lib.hid (X.out.keep hc)); (replace KA := Lib.hid (hb hc KA.out)); (replace Y0 := Lib.hid (Buf.then_ Y0.out hc)); (clear hc x0 x1 x2 x3 x4 x5 x6 x7 x8 x9 x10 x11); (obtain ⟨x0, x1, x2, x3, x4, x5, x6, x7, x8, x9, x10, x11⟩ := c12 KA.out)))
  go_ret
  exact ⟨rfl, Y0.out⟩
set_option maxHeartbeats 4000000 in
set_option maxRecDepth 100000 in
theorem refAt_any (P : RP s0 s1 s2 s3 st fi num den er ru se) {b n c : Nat} {xs : List Int} {w : World} (X : RX w b n c xs) (i : Int) (i0 : 0 ≤ i) (i9 : i ≤ n) :
    Calls Try.prog 14 #[.agg #[.string ⟨s0.toArray⟩, .string ⟨s1.toArray⟩, .string ⟨s2.toArray⟩, .string ⟨s3.toArray⟩, .int .i64 st, .int .i64 fi, .int .i64 num, .int .i64 den, .int .i64 er, .int .i64 ru, .int .i64 se, .slice (some ⟨b, 0, none⟩) n c], .int .i64 i] w fun e w' => e = .returned (.tuple #[.int .i64 (tm st fi num den i), .int .i64 0]) ∧ Below w.heap.size w w' := by
  have n9 := X.h9
  have VT := Lib.hid fun w' => refTime_any P b n c i (by omega) (by omega) w'
  obtain ⟨w0, hw0e⟩ : ∃ w0, w0 = w.alloc (.cells #[.string ⟨s0.toArray⟩, .string ⟨s1.toArray⟩, .string ⟨s2.toArray⟩, .string ⟨s3.toArray⟩, .int .i64 st, .int .i64 fi, .int .i64 num, .int .i64 den, .int .i64 er, .int .i64 ru, .int .i64 se, .slice (some ⟨b, 0, none⟩) n c] 32) := ⟨_, rfl⟩
  have Y0 : Hid (Below w.heap.size w w0) := Lib.hid (by rw [hw0e]; exact new_block _)
  have KA := Lib.hid (show w0.heap[w.heap.size]? = some (.cells #[.string ⟨s0.toArray⟩, .string ⟨s1.toArray⟩, .string ⟨s2.toArray⟩, .string ⟨s3.toArray⟩, .int .i64 st, .int .i64 fi, .int .i64 num, .int .i64 den, .int .i64 er, .int .i64 ru, .int .i64 se, .slice (some ⟨b, 0, none⟩) n c] 32 (0, 0)) by rw [hw0e]; exact heap_alloc_new w _)
  have VV := Lib.hid (refrec_yes P (X.keep Y0.out))
  clear P X
  go_enter Try.func14, Try.ntmps14
  go_upto_region 1 with fail
  rw [← hw0e]
  clear hw0e
  obtain ⟨x0, x1, x2, x3, x4, x5, x6, x7, x8, x9, x10, x11⟩ := c12 KA.out
  go_wp2_with (first
    | (go_at_call 27; with_reducible refine (VV.out).mono ?_; rintro e w1 ⟨rfl, hc⟩; (replace KA := Lib.hid (hb hc KA.out)); (replace Y0 := Lib.hid (Buf.then_ Y0.out hc)); (clear hc x0 x1 x2 x3 x4 x5 x6 x7 x8 x9 x10 x11); (obtain ⟨x0, x1, x2, x3, x4, x5, x6, x7, x8, x9, x10, x11⟩ := c12 KA.out))
    | (go_at_call 28; with_reducible refine (VT.out _).mono ?_; rintro e w1 ⟨rfl, hc⟩; (replace KA := Lib.hid (hb hc KA.out)); (replace Y0 := Lib.hid (Buf.then_ Y0.out hc)); (clear hc x0 x1 x2 x3 x4 x5 x6 x7 x8 x9 x10 x11); (obtain ⟨x0, x1, x2, x3, x4, x5, x6, x7, x8, x9, x10, x11⟩ := c12 KA.out))
    | (go_at_call 34; refine (in_b _ _ _ _ (by omega) (by omega)).mono ?_; rintro e w1 ⟨rfl, hc⟩; (replace KA := Lib.hid (hb hc KA.out)); (replace Y0 := Lib.hid (Buf.then_ Y0.out hc)); (clear hc x0 x1 x2 x3 x4 x5 x6 x7 x8 x9 x10 x11); (obtain ⟨x0, x1, x2, x3, x4, x5, x6, x7, x8, x9, x10, x11⟩ := c12 KA.out)))
  go_ret2
  exact ⟨rfl, Y0.out⟩
set_option maxHeartbeats 4000000 in
set_option maxRecDepth 100000 in
theorem refSpan_any (P : RP s0 s1 s2 s3 st fi num den er ru se) {b n c : Nat} {xs : List Int} {w : World} (X : RX w b n c xs) :
    Calls Try.prog 11 #[.agg #[.string ⟨s0.toArray⟩, .string ⟨s1.toArray⟩, .string ⟨s2.toArray⟩, .string ⟨s3.toArray⟩, .int .i64 st, .int .i64 fi, .int .i64 num, .int .i64 den, .int .i64 er, .int .i64 ru, .int .i64 se, .slice (some ⟨b, 0, none⟩) n c]] w fun e w' => e = .returned (.tuple #[.agg #[.int .i64 (tm st fi num den 0), .int .i64 (tm st fi num den (n : Int))], .int .i64 0]) ∧ Below w.heap.size w w' := by
  have n9 := X.h9
  obtain ⟨w0, hw0e⟩ : ∃ w0, w0 = (w.alloc (.cells #[.string ⟨s0.toArray⟩, .string ⟨s1.toArray⟩, .string ⟨s2.toArray⟩, .string ⟨s3.toArray⟩, .int .i64 st, .int .i64 fi, .int .i64 num, .int .i64 den, .int .i64 er, .int .i64 ru, .int .i64 se, .slice (some ⟨b, 0, none⟩) n c] 32)).alloc (.cells #[.int .i64 0, .int .i64 0] 36) := ⟨_, rfl⟩
  have eS : (w.alloc (.cells #[.string ⟨s0.toArray⟩, .string ⟨s1.toArray⟩, .string ⟨s2.toArray⟩, .string ⟨s3.toArray⟩, .int .i64 st, .int .i64 fi, .int .i64 num, .int .i64 den, .int .i64 er, .int .i64 ru, .int .i64 se, .slice (some ⟨b, 0, none⟩) n c] 32)).heap.size = w.heap.size + 1 := by simp
  have Y0 : Hid (Below w.heap.size w w0) := Lib.hid (by rw [hw0e]; exact (new_block _).alloc (by simp) _)
  have KA := Lib.hid (show w0.heap[w.heap.size]? = some (.cells #[.string ⟨s0.toArray⟩, .string ⟨s1.toArray⟩, .string ⟨s2.toArray⟩, .string ⟨s3.toArray⟩, .int .i64 st, .int .i64 fi, .int .i64 num, .int .i64 den, .int .i64 er, .int .i64 ru, .int .i64 se, .slice (some ⟨b, 0, none⟩) n c] 32 (0, 0)) by rw [hw0e]; exact (heap_alloc_old _ _ (by simp)).trans (heap_alloc_new w _))
  have KB := Lib.hid (show w0.heap[w.heap.size + 1]? = some (.cells #[.int .i64 0, .int .i64 0] 36 (0, 0)) by rw [hw0e, ← eS]; exact heap_alloc_new _ _)
  have VV := Lib.hid (refrec_yes P (X.keep Y0.out))
  have T0 := Lib.hid fun w' => refTime_any P b n c 0 (by omega) (by omega) w'
  have TN := Lib.hid fun w' => refTime_any P b n c (n : Int) (by omega) (by omega) w'
  clear P X
  generalize tm st fi num den 0 = ta at *
  generalize tm st fi num den (n : Int) = tb at *
  go_enter Try.func11, Try.ntmps11
  go_upto_region 1 with fail
  rw [← hw0e]
  clear hw0e eS
  obtain ⟨x0, x1, x2, x3, x4, x5, x6, x7, x8, x9, x10, x11⟩ := c12 KA.out
  go_upto_region 3 with (go_at_call 27; with_reducible refine VV.out.mono ?_; rintro e w1 ⟨rfl, hc⟩; (replace KA := Lib.hid (hb hc KA.out)); (replace KB := Lib.hid (hb hc KB.out)); (replace Y0 := Lib.hid (Buf.then_ Y0.out hc)); (clear hc x0 x1 x2 x3 x4 x5 x6 x7 x8 x9 x10 x11); (obtain ⟨x0, x1, x2, x3, x4, x5, x6, x7, x8, x9, x10, x11⟩ := c12 KA.out))
  have hw0 : Below w1.heap.size w1 w1.drew := (Below.refl _ _).drew
  refine wp_region_noPanic ?_
  refine wp_region_any (by kernel_rfl) ?_
  refine Inv.wpAny_inv (fun k => k == 8 || k == 9) [8, 9, 10, 11, 12, 13, 14, 15] (fun w' => Below w1.heap.size w1 w') (fun _ w1 w2 => Below w1.heap.size w1 w2) (fun k => ([fun v_ w_ => v_ = .agg #[.string ⟨s0.toArray⟩, .string ⟨s1.toArray⟩, .string ⟨s2.toArray⟩, .string ⟨s3.toArray⟩, .int .i64 st, .int .i64 fi, .int .i64 num, .int .i64 den, .int .i64 er, .int .i64 ru, .int .i64 se, .slice (some ⟨b, 0, none⟩) n c], fun v_ w_ => v_ = .int .i64 ta, fun v_ w_ => v_ = .agg #[.string ⟨s0.toArray⟩, .string ⟨s1.toArray⟩, .string ⟨s2.toArray⟩, .string ⟨s3.toArray⟩, .int .i64 st, .int .i64 fi, .int .i64 num, .int .i64 den, .int .i64 er, .int .i64 ru, .int .i64 se, .slice (some ⟨b, 0, none⟩) n c], fun v_ w_ => v_ = .pointer (some ⟨w.heap.size, 11, none⟩), fun v_ w_ => v_ = .slice (some ⟨b, 0, none⟩) n c, fun v_ w_ => v_ = .int .i64 (n : Int), fun v_ w_ => v_ = .int .i64 tb, fun v_ w_ => v_ = .agg #[.int .i64 ta, .int .i64 tb], fun v_ w_ => True, fun v_ w_ => True] : List (Value → World → Prop)).getD k (fun _ _ => True)) _ (fun σ => by simp only [Inv.putAll, List.foldl_cons, List.foldl_nil, Act.put, List.setIfInBounds_toArray, List.set_cons_zero, List.set_cons_succ]; rfl) (by kernel_rfl) (by kernel_rfl) ?_ hw0 ?_ ?_ 2 #[true, true, true, true, true, true, true, true, false, false] (by kernel_rfl) (by kernel_rfl) ?_
  · intro j k v w1 w2 hjk hv hr
    rcases k with _ | k
    · exact hv
    rcases k with _ | k
    · exact hv
    rcases k with _ | k
    · exact hv
    rcases k with _ | k
    · exact hv
    rcases k with _ | k
    · exact hv
    rcases k with _ | k
    · exact hv
    rcases k with _ | k
    · exact hv
    rcases k with _ | k
    · exact hv
    rcases k with _ | k
    · exact hv
    rcases k with _ | k
    · exact hv
    · exact hv
  · intro k t hl hd
    rcases k with _ | k
    · exact absurd hl (by decide +kernel)
    rcases k with _ | k
    · exact absurd hl (by decide +kernel)
    rcases k with _ | k
    · exact absurd hl (by decide +kernel)
    rcases k with _ | k
    · exact absurd hl (by decide +kernel)
    rcases k with _ | k
    · exact absurd hl (by decide +kernel)
    rcases k with _ | k
    · exact absurd hl (by decide +kernel)
    rcases k with _ | k
    · exact absurd hl (by decide +kernel)
    rcases k with _ | k
    · exact absurd hl (by decide +kernel)
    rcases k with _ | k
    · exact absurd hl (by decide +kernel)
    rcases k with _ | k
    · exact absurd hl (by decide +kernel)
    · simp at hd
  · show Inv.Steps _ _ _ _ _ _ _ _ [0, 1, 2, 3, 4, 5, 6, 7]
    refine Inv.Steps.go (by decide) (by rfl) (fun σ wx hw hd K hK => ?_) ?_
    · simp only [List.getElem_toArray, List.getElem_cons_zero, List.getElem_cons_succ, Act.put, List.setIfInBounds_toArray, List.set_cons_zero, List.set_cons_succ] at hK ⊢
      refine wp_load_row 32 (.tmp 1) rfl w.heap.size rfl 32 #[.string ⟨s0.toArray⟩, .string ⟨s1.toArray⟩, .string ⟨s2.toArray⟩, .string ⟨s3.toArray⟩, .int .i64 st, .int .i64 fi, .int .i64 num, .int .i64 den, .int .i64 er, .int .i64 ru, .int .i64 se, .slice (some ⟨b, 0, none⟩) n c] (0, 0) _ (hb hw KA.out) rfl rfl rfl ?_
      simp only [Act.put, List.setIfInBounds_toArray, List.set_cons_zero, List.set_cons_succ]
      exact hK.out _ _ hw (Below.refl _ _) (rfl)
    refine Inv.Steps.go (by decide) (by rfl) (fun σ wx hw hd K hK => ?_) ?_
    · obtain e8 : (σ 8) = .agg #[.string ⟨s0.toArray⟩, .string ⟨s1.toArray⟩, .string ⟨s2.toArray⟩, .string ⟨s3.toArray⟩, .int .i64 st, .int .i64 fi, .int .i64 num, .int .i64 den, .int .i64 er, .int .i64 ru, .int .i64 se, .slice (some ⟨b, 0, none⟩) n c] := hd 0 (some 8) (by kernel_rfl) (by rfl)
      simp only [List.getElem_toArray, List.getElem_cons_zero, List.getElem_cons_succ, Act.put, List.setIfInBounds_toArray, List.set_cons_zero, List.set_cons_succ, e8] at hK ⊢
      go_simp
      go_at_call 28
      refine (T0.out _).mono ?_
      rintro e w1 ⟨rfl, hb1⟩
      dsimp only
      exact hK.out _ _ (Buf.then_ hw hb1) hb1 (rfl)
    refine Inv.Steps.go (by decide) (by rfl) (fun σ wx hw hd K hK => ?_) ?_
    · simp only [List.getElem_toArray, List.getElem_cons_zero, List.getElem_cons_succ, Act.put, List.setIfInBounds_toArray, List.set_cons_zero, List.set_cons_succ] at hK ⊢
      refine wp_load_row 32 (.tmp 1) rfl w.heap.size rfl 32 #[.string ⟨s0.toArray⟩, .string ⟨s1.toArray⟩, .string ⟨s2.toArray⟩, .string ⟨s3.toArray⟩, .int .i64 st, .int .i64 fi, .int .i64 num, .int .i64 den, .int .i64 er, .int .i64 ru, .int .i64 se, .slice (some ⟨b, 0, none⟩) n c] (0, 0) _ (hb hw KA.out) rfl rfl rfl ?_
      simp only [Act.put, List.setIfInBounds_toArray, List.set_cons_zero, List.set_cons_succ]
      exact hK.out _ _ hw (Below.refl _ _) (rfl)
    refine Inv.Steps.go (by decide) (by rfl) (fun σ wx hw hd K hK => ?_) ?_
    · simp only [List.getElem_toArray, List.getElem_cons_zero, List.getElem_cons_succ, Act.put, List.setIfInBounds_toArray, List.set_cons_zero, List.set_cons_succ] at hK ⊢
      go_simp
      exact hK.out _ _ hw (Below.refl _ _) (rfl)
    refine Inv.Steps.go (by decide) (by rfl) (fun σ wx hw hd K hK => ?_) ?_
    · obtain e11 : (σ 11) = .pointer (some ⟨w.heap.size, 11, none⟩) := hd 3 (some 11) (by kernel_rfl) (by rfl)
      simp only [List.getElem_toArray, List.getElem_cons_zero, List.getElem_cons_succ, Act.put, List.setIfInBounds_toArray, List.set_cons_zero, List.set_cons_succ, e11] at hK ⊢
      obtain ⟨x0, x1, x2, x3, x4, x5, x6, x7, x8, x9, x10, x11⟩ := c12 (hb hw KA.out)
      go_simp
      exact hK.out _ _ hw (Below.refl _ _) (rfl)
    refine Inv.Steps.go (by decide) (by rfl) (fun σ wx hw hd K hK => ?_) ?_
    · obtain e12 : (σ 12) = .slice (some ⟨b, 0, none⟩) n c := hd 4 (some 12) (by kernel_rfl) (by rfl)
      simp only [List.getElem_toArray, List.getElem_cons_zero, List.getElem_cons_succ, Act.put, List.setIfInBounds_toArray, List.set_cons_zero, List.set_cons_succ, e12] at hK ⊢
      go_simp
      exact hK.out _ _ hw (Below.refl _ _) (rfl)
    refine Inv.Steps.go (by decide) (by rfl) (fun σ wx hw hd K hK => ?_) ?_
    · obtain e10 : (σ 10) = .agg #[.string ⟨s0.toArray⟩, .string ⟨s1.toArray⟩, .string ⟨s2.toArray⟩, .string ⟨s3.toArray⟩, .int .i64 st, .int .i64 fi, .int .i64 num, .int .i64 den, .int .i64 er, .int .i64 ru, .int .i64 se, .slice (some ⟨b, 0, none⟩) n c] := hd 2 (some 10) (by kernel_rfl) (by rfl)
      obtain e13 : (σ 13) = .int .i64 (n : Int) := hd 5 (some 13) (by kernel_rfl) (by rfl)
      simp only [List.getElem_toArray, List.getElem_cons_zero, List.getElem_cons_succ, Act.put, List.setIfInBounds_toArray, List.set_cons_zero, List.set_cons_succ, e10, e13] at hK ⊢
      go_simp
      go_at_call 28
      refine (TN.out _).mono ?_
      rintro e w1 ⟨rfl, hb1⟩
      dsimp only
      exact hK.out _ _ (Buf.then_ hw hb1) hb1 (rfl)
    refine Inv.Steps.go (by decide) (by rfl) (fun σ wx hw hd K hK => ?_) ?_
    · obtain e9 : (σ 9) = .int .i64 ta := hd 1 (some 9) (by kernel_rfl) (by rfl)
      obtain e14 : (σ 14) = .int .i64 tb := hd 6 (some 14) (by kernel_rfl) (by rfl)
      simp only [List.getElem_toArray, List.getElem_cons_zero, List.getElem_cons_succ, Act.put, List.setIfInBounds_toArray, List.set_cons_zero, List.set_cons_succ, e9, e14] at hK ⊢
      go_simp
      exact hK.out _ _ hw (Below.refl _ _) (rfl)
    exact Inv.Steps.nil
  · intro σ wx hw hd
    obtain e15 : (σ 15) = .agg #[.int .i64 ta, .int .i64 tb] := hd 7 (some 15) (by rfl) (by rfl)
    simp only [e15]
    have PB := hb hw KB.out
    obtain ⟨k0, k1_⟩ := c2 PB
    have f0 := frozen_of_row wx (w.heap.size + 1) 0 _ _ PB
    have f1 := frozen_of_row wx (w.heap.size + 1) 1 _ _ PB
    refine Inv.one (i := 8) (by decide) (by kernel_rfl) (by rfl) (fun K hK => ?_)
    simp only [List.getElem_toArray, List.getElem_cons_zero, List.getElem_cons_succ, Act.put, List.setIfInBounds_toArray, List.set_cons_zero, List.set_cons_succ] at hK ⊢
    go_simp
    refine hK.out _ _ ?_
    clear hK K
    refine Inv.take (i := 9) (v := .int .i64 0) (by decide) rfl (by kernel_rfl) (by kernel_rfl) (by kernel_rfl) (fun _ _ _ h => h) (by rfl) (fun w' => ?_) ?_
    · simp only [List.getElem_toArray, List.getElem_cons_zero, List.getElem_cons_succ]
      go_simp
    try simp only [Act.put, List.setIfInBounds_toArray, List.set_cons_zero, List.set_cons_succ]
    refine Inv.done (by kernel_rfl) (NoPanic.normal ?_)
    have Q8 := (heap_setCell_same wx (w.heap.size + 1) 0 _ _ (.int .i64 ta) PB).trans rfl
    have Z := Lib.hid ((heap_setCell_same (wx.setCell ⟨w.heap.size + 1, 0, none⟩ (.int .i64 ta)) (w.heap.size + 1) 1 _ _ (.int .i64 tb) Q8).trans rfl)
    have BZ := Lib.hid (((Buf.then_ Y0.out hw).setCell (p := ⟨w.heap.size + 1, 0, none⟩) (by show w.heap.size ≤ w.heap.size + 1; omega) (.int .i64 ta)).setCell (p := ⟨w.heap.size + 1, 1, none⟩) (by show w.heap.size ≤ w.heap.size + 1; omega) (.int .i64 tb))
    clear k0 k1_ f0 f1 PB hd hw e15 Q8
    go_wp2_with fail
    exact bodyPost_ret (Res.row_tmp rfl _ _ (w.heap.size + 1) _ _ _ _ rfl Z.out rfl (by rfl) rfl) rfl ⟨rfl, BZ.out⟩
end
end Rec
end Go.Proofs.Yticdjlpabknaiaa
