/- Package record: timeOf, Valid, At. -/
import Derived.Test.YticdjlpabknaiaaRecCN
import Derived.Test.YticdjlpabknaiaaSrcA
import Derived.Test.YticdjlpabknaiaaRateMN
set_option linter.unusedVariables false
set_option linter.unusedSimpArgs false
namespace Go.Proofs.Yticdjlpabknaiaa
open Go.RowKit
namespace Rec
open Dice
/-- The numbers of a record that is valid. -/
structure RP (s0 s1 s2 s3 : List UInt8) (st fi num den er ru se : Int) : Prop where
  src : Sc.Src4 s0 s1 s2 s3
  st0 : 0 ≤ st
  st9 : st ≤ 4503599627370496
  fi0 : 0 ≤ fi
  fi9 : fi ≤ 1000
  rv : Rate.RV num den
  er0 : 0 ≤ er
  er9 : er ≤ 1000
  ru0 : 0 ≤ ru
  ru9 : ru ≤ 1000
  se0 : 0 ≤ se
  se9 : se ≤ 1000
/-- The samples of a record that is valid. -/
structure RX (w : World) (b n c : Nat) (xs : List Int) : Prop where
  sr : SR w b xs
  hn : n = xs.length
  h1 : 1 ≤ n
  h9 : n ≤ 1000
  hc : n ≤ c
  c9 : c ≤ maxLen
  ok : ∀ x ∈ xs, -1073741823 ≤ x ∧ x ≤ 1073741823
theorem RX.keep {w w' : World} {b n c : Nat} {xs : List Int} (h : RX w b n c xs) (hl : Below w.heap.size w w') : RX w' b n c xs := ⟨h.sr.below hl, h.hn, h.h1, h.h9, h.hc, h.c9, h.ok⟩
theorem RX.kept {w w' : World} {b n c : Nat} {xs : List Int} (h : RX w b n c xs) (e : w'.heap[b]? = w.heap[b]?) (hs : w.heap.size ≤ w'.heap.size) : RX w' b n c xs := ⟨h.sr.kept e hs, h.hn, h.h1, h.h9, h.hc, h.c9, h.ok⟩
theorem RX.at_ {w : World} {b n c : Nat} {xs : List Int} (h : RX w b n c xs) {k : Nat} (hk : k < n) : w.cell? ⟨b, k, none⟩ = some (.int .i64 (xs.getD k 0)) ∧ -1073741823 ≤ xs.getD k 0 ∧ xs.getD k 0 ≤ 1073741823 := by
  have hk' : k < xs.length := by rw [← h.hn]; exact hk
  have hm : xs.getD k 0 ∈ xs := by rw [List.getD_eq_getElem?_getD, List.getElem?_eq_getElem hk']; exact List.getElem_mem hk'
  exact ⟨h.sr.2 k hk', h.ok _ hm⟩
/-- The time of the sample i. -/
def tm (st fi num den i : Int) : Int := st + Rate.el num den (fi + i)
theorem tm_bd {s0 s1 s2 s3 : List UInt8} {st fi num den er ru se : Int} (h : RP s0 s1 s2 s3 st fi num den er ru se) (i : Int) (i0 : 0 ≤ i) (i9 : i ≤ 2000) : 0 ≤ tm st fi num den i ∧ tm st fi num den i ≤ 4772035083370496 := by
  have := Laws.el_small num den (fi + i) h.rv.n1 h.rv.d1 h.rv.d2 (by have := h.fi0; omega) (by have := h.fi9; omega)
  have := h.st0
  have := h.st9
  unfold tm
  omega
theorem within_b (n lo hi : Int) (w : World) (h1 : lo ≤ n) (h2 : n ≤ hi) :
    Calls Try.prog 35 #[.int .i64 n, .int .i64 lo, .int .i64 hi] w fun e w' => e = .returned (.bool true) ∧ Below w.heap.size w w' :=
  (Rate.within_yes n lo hi w h1 h2).mono (by rintro e w' ⟨rfl, m, rfl⟩; exact ⟨rfl, Buf.below_drewN (Below.refl _ _) m⟩)
section
variable {s0 s1 s2 s3 : List UInt8} {st fi num den er ru se : Int}
set_option maxHeartbeats 4000000 in
set_option maxRecDepth 100000 in
theorem timeOf_any (P : RP s0 s1 s2 s3 st fi num den er ru se) (b n c : Nat) (i : Int) (i0 : 0 ≤ i) (i9 : i ≤ 2000) (w : World) :
    Calls Try.prog 33 #[.agg #[.string ⟨s0.toArray⟩, .string ⟨s1.toArray⟩, .string ⟨s2.toArray⟩, .string ⟨s3.toArray⟩, .int .i64 st, .int .i64 fi, .int .i64 num, .int .i64 den, .int .i64 er, .int .i64 ru, .int .i64 se, .slice (some ⟨b, 0, none⟩) n c], .int .i64 i] w fun e w' => e = .returned (.int .i64 (tm st fi num den i)) ∧ Below w.heap.size w w' := by
  have f0 := P.fi0
  have f9 := P.fi9
  have TI := Lib.hid fun w' => Rate.time_ok st num den (fi + i) P.rv w' P.st0 (by have := P.st9; omega) (by omega) (by omega)
  unfold tm
  obtain ⟨w0, hw0e⟩ : ∃ w0, w0 = w.alloc (.cells #[.string ⟨s0.toArray⟩, .string ⟨s1.toArray⟩, .string ⟨s2.toArray⟩, .string ⟨s3.toArray⟩, .int .i64 st, .int .i64 fi, .int .i64 num, .int .i64 den, .int .i64 er, .int .i64 ru, .int .i64 se, .slice (some ⟨b, 0, none⟩) n c] 32) := ⟨_, rfl⟩
  have Y0 : Hid (Below w.heap.size w w0) := Lib.hid (by rw [hw0e]; exact new_block _)
  have KA := Lib.hid (show w0.heap[w.heap.size]? = some (.cells #[.string ⟨s0.toArray⟩, .string ⟨s1.toArray⟩, .string ⟨s2.toArray⟩, .string ⟨s3.toArray⟩, .int .i64 st, .int .i64 fi, .int .i64 num, .int .i64 den, .int .i64 er, .int .i64 ru, .int .i64 se, .slice (some ⟨b, 0, none⟩) n c] 32 (0, 0)) by rw [hw0e]; exact heap_alloc_new w _)
  clear P
  go_enter Try.func33, Try.ntmps33
  go_upto_region 1 with fail
  rw [← hw0e]
  clear hw0e
  obtain ⟨x0, x1, x2, x3, x4, x5, x6, x7, x8, x9, x10, x11⟩ := c12 KA.out
  go_wp2_with (go_at_call 51; with_reducible refine (TI.out _).mono ?_; rintro e w1 ⟨rfl, hc⟩)
  go_ret
  exact ⟨rfl, Buf.then_ Y0.out hc⟩
set_option maxHeartbeats 4000000 in
set_option maxRecDepth 100000 in
theorem valid_any (P : RP s0 s1 s2 s3 st fi num den er ru se) {b n c : Nat} {xs : List Int} {w : World} (X : RX w b n c xs) :
    Calls Try.prog 24 #[.agg #[.string ⟨s0.toArray⟩, .string ⟨s1.toArray⟩, .string ⟨s2.toArray⟩, .string ⟨s3.toArray⟩, .int .i64 st, .int .i64 fi, .int .i64 num, .int .i64 den, .int .i64 er, .int .i64 ru, .int .i64 se, .slice (some ⟨b, 0, none⟩) n c]] w fun e w' => e = .returned (.bool true) ∧ Below w.heap.size w w' := by
  have VS := Lib.hid fun w' => Sc.valid_yes P.src w'
  have VR := Lib.hid fun w' => Rate.valid_yes num den P.rv w'
  have VT := Lib.hid fun w' => timeOf_any P b n c (n : Int) (by omega) (by have := X.h9; omega) w'
  have t9 := (tm_bd P (n : Int) (by omega) (by have := X.h9; omega)).2
  generalize tm st fi num den (n : Int) = tn at VT t9
  have gt : (tn > 9007199254740992) = False := by simp; omega
  obtain ⟨_, st0, st9, fi0, fi9, _, er0, er9, ru0, ru9, se0, se9⟩ := P
  have n1 := X.h1
  have n9 := X.h9
  obtain ⟨w0, hw0e⟩ : ∃ w0, w0 = w.alloc (.cells #[.string ⟨s0.toArray⟩, .string ⟨s1.toArray⟩, .string ⟨s2.toArray⟩, .string ⟨s3.toArray⟩, .int .i64 st, .int .i64 fi, .int .i64 num, .int .i64 den, .int .i64 er, .int .i64 ru, .int .i64 se, .slice (some ⟨b, 0, none⟩) n c] 32) := ⟨_, rfl⟩
  have Y0 : Hid (Below w.heap.size w w0) := Lib.hid (by rw [hw0e]; exact new_block _)
  have KA := Lib.hid (show w0.heap[w.heap.size]? = some (.cells #[.string ⟨s0.toArray⟩, .string ⟨s1.toArray⟩, .string ⟨s2.toArray⟩, .string ⟨s3.toArray⟩, .int .i64 st, .int .i64 fi, .int .i64 num, .int .i64 den, .int .i64 er, .int .i64 ru, .int .i64 se, .slice (some ⟨b, 0, none⟩) n c] 32 (0, 0)) by rw [hw0e]; exact heap_alloc_new w _)
  replace X := Lib.hid (X.keep Y0.out)
  go_enter Try.func24, Try.ntmps24
  go_upto_region 1 with fail
  rw [← hw0e]
  clear hw0e
  obtain ⟨x0, x1, x2, x3, x4, x5, x6, x7, x8, x9, x10, x11⟩ := c12 KA.out
  go_upto_region 8 with (first
    | (go_at_call 42; with_reducible refine (VS.out _).mono ?_; rintro e w1 ⟨rfl, hc⟩; (replace X := Lib.hid (X.out.keep hc)); (replace KA := Lib.hid (hb hc KA.out)); (replace Y0 := Lib.hid (Buf.then_ Y0.out hc)); (clear hc x0 x1 x2 x3 x4 x5 x6 x7 x8 x9 x10 x11); (obtain ⟨x0, x1, x2, x3, x4, x5, x6, x7, x8, x9, x10, x11⟩ := c12 KA.out))
    | (go_at_call 43; with_reducible refine (VR.out _).mono ?_; rintro e w1 ⟨rfl, hc⟩; (replace X := Lib.hid (X.out.keep hc)); (replace KA := Lib.hid (hb hc KA.out)); (replace Y0 := Lib.hid (Buf.then_ Y0.out hc)); (clear hc x0 x1 x2 x3 x4 x5 x6 x7 x8 x9 x10 x11); (obtain ⟨x0, x1, x2, x3, x4, x5, x6, x7, x8, x9, x10, x11⟩ := c12 KA.out))
    | (go_at_call 33; with_reducible refine (VT.out _).mono ?_; rintro e w1 ⟨rfl, hc⟩; (replace X := Lib.hid (X.out.keep hc)); (replace KA := Lib.hid (hb hc KA.out)); (replace Y0 := Lib.hid (Buf.then_ Y0.out hc)); (clear hc x0 x1 x2 x3 x4 x5 x6 x7 x8 x9 x10 x11); (obtain ⟨x0, x1, x2, x3, x4, x5, x6, x7, x8, x9, x10, x11⟩ := c12 KA.out))
    | (go_at_call 35; refine (within_b _ _ _ _ (by omega) (by omega)).mono ?_; rintro e w1 ⟨rfl, hc⟩; (replace X := Lib.hid (X.out.keep hc)); (replace KA := Lib.hid (hb hc KA.out)); (replace Y0 := Lib.hid (Buf.then_ Y0.out hc)); (clear hc x0 x1 x2 x3 x4 x5 x6 x7 x8 x9 x10 x11); (obtain ⟨x0, x1, x2, x3, x4, x5, x6, x7, x8, x9, x10, x11⟩ := c12 KA.out)))
  clear KA VS VR VT t9 gt st0 st9 fi0 fi9 er0 er9 ru0 ru9 se0 se9
  go_wp2_with fail
  clear x0 x1 x2 x3 x4 x5 x6 x7 x8 x9 x10 x11
  go_loopw [61] (fun i wr => ∃ k : Nat, k ≤ n ∧ i = .int .i64 k ∧ Hid (Below w.heap.size w wr) ∧ Hid (RX wr b n c xs)) (fun i _ => n - (intOf i).toNat)
  case atStart => exact ⟨0, by omega, rfl, Y0, X⟩
  case round =>
    obtain ⟨k, hk, rfl, hw, hx⟩ := hrel
    by_cases hlt : k < n
    · obtain ⟨c1, d0, d9⟩ := hx.out.at_ hlt
      generalize xs.getD k 0 = d at c1 d0 d9
      have kn : (k : Int) < n := by omega
      go_wp2_with (go_at_call 35; refine (within_b _ _ _ _ (by omega) (by omega)).mono ?_; rintro e w1 ⟨rfl, hc⟩)
      go_roundw
      case rel => exact ⟨k + 1, by omega, by go_num, Lib.hid (Buf.then_ hw.out hc), Lib.hid (hx.out.keep hc)⟩
      case measure => simp [intOf]; omega
    · obtain rfl : k = n := by omega
      go_wp2_with fail
      go_ret
      exact ⟨rfl, hw.out⟩
set_option maxHeartbeats 4000000 in
set_option maxRecDepth 100000 in
theorem at_any (P : RP s0 s1 s2 s3 st fi num den er ru se) {b n c : Nat} {xs : List Int} {w : World} (X : RX w b n c xs) (i : Int) (i0 : 0 ≤ i) (i9 : i ≤ n) :
    Calls Try.prog 18 #[.agg #[.string ⟨s0.toArray⟩, .string ⟨s1.toArray⟩, .string ⟨s2.toArray⟩, .string ⟨s3.toArray⟩, .int .i64 st, .int .i64 fi, .int .i64 num, .int .i64 den, .int .i64 er, .int .i64 ru, .int .i64 se, .slice (some ⟨b, 0, none⟩) n c], .int .i64 i] w fun e w' => e = .returned (.tuple #[.int .i64 (tm st fi num den i), .int .i64 0]) ∧ Below w.heap.size w w' := by
  have n9 := X.h9
  have VT := Lib.hid fun w' => timeOf_any P b n c i (by omega) (by omega) w'
  obtain ⟨w0, hw0e⟩ : ∃ w0, w0 = w.alloc (.cells #[.string ⟨s0.toArray⟩, .string ⟨s1.toArray⟩, .string ⟨s2.toArray⟩, .string ⟨s3.toArray⟩, .int .i64 st, .int .i64 fi, .int .i64 num, .int .i64 den, .int .i64 er, .int .i64 ru, .int .i64 se, .slice (some ⟨b, 0, none⟩) n c] 32) := ⟨_, rfl⟩
  have Y0 : Hid (Below w.heap.size w w0) := Lib.hid (by rw [hw0e]; exact new_block _)
  have KA := Lib.hid (show w0.heap[w.heap.size]? = some (.cells #[.string ⟨s0.toArray⟩, .string ⟨s1.toArray⟩, .string ⟨s2.toArray⟩, .string ⟨s3.toArray⟩, .int .i64 st, .int .i64 fi, .int .i64 num, .int .i64 den, .int .i64 er, .int .i64 ru, .int .i64 se, .slice (some ⟨b, 0, none⟩) n c] 32 (0, 0)) by rw [hw0e]; exact heap_alloc_new w _)
  have VV := Lib.hid (valid_any P (X.keep Y0.out))
  clear P X
  go_enter Try.func18, Try.ntmps18
  go_upto_region 1 with fail
  rw [← hw0e]
  clear hw0e
  obtain ⟨x0, x1, x2, x3, x4, x5, x6, x7, x8, x9, x10, x11⟩ := c12 KA.out
  go_wp2_with (first
    | (go_at_call 24; with_reducible refine (VV.out).mono ?_; rintro e w1 ⟨rfl, hc⟩; (replace KA := Lib.hid (hb hc KA.out)); (replace Y0 := Lib.hid (Buf.then_ Y0.out hc)); (clear hc x0 x1 x2 x3 x4 x5 x6 x7 x8 x9 x10 x11); (obtain ⟨x0, x1, x2, x3, x4, x5, x6, x7, x8, x9, x10, x11⟩ := c12 KA.out))
    | (go_at_call 33; with_reducible refine (VT.out _).mono ?_; rintro e w1 ⟨rfl, hc⟩; (replace KA := Lib.hid (hb hc KA.out)); (replace Y0 := Lib.hid (Buf.then_ Y0.out hc)); (clear hc x0 x1 x2 x3 x4 x5 x6 x7 x8 x9 x10 x11); (obtain ⟨x0, x1, x2, x3, x4, x5, x6, x7, x8, x9, x10, x11⟩ := c12 KA.out))
    | (go_at_call 35; refine (within_b _ _ _ _ (by omega) (by omega)).mono ?_; rintro e w1 ⟨rfl, hc⟩; (replace KA := Lib.hid (hb hc KA.out)); (replace Y0 := Lib.hid (Buf.then_ Y0.out hc)); (clear hc x0 x1 x2 x3 x4 x5 x6 x7 x8 x9 x10 x11); (obtain ⟨x0, x1, x2, x3, x4, x5, x6, x7, x8, x9, x10, x11⟩ := c12 KA.out)))
  go_ret2
  exact ⟨rfl, Y0.out⟩
end
end Rec
end Go.Proofs.Yticdjlpabknaiaa
