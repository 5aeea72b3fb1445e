/- clock.Apply. -/
import Derived.Test.YtdcjpjdkamlheaaRecD
import Derived.Test.YtdcjpjdkamlheaaWithin
import Derived.Lib.MinMax
set_option linter.unusedVariables false
set_option linter.unusedSimpArgs false
namespace Go.Proofs.Ytdcjpjdkamlheaa
open Go.RowKit
namespace Rec
open Dice
set_option maxHeartbeats 8000000 in
set_option maxRecDepth 100000 in
theorem apply_none {w : World} {b n c : Nat} {xs : List Int} (lv : Value) (x : Int) (S0 S1 S2 S3 : ByteArray) (st num den er ru se : Int) (rv : Rate.RV num den) (s0 : 0 ≤ st) (s9 : st ≤ 65535)
    (hv : ∀ w', Below w.heap.size w w' → Calls Try.prog 26 #[lv, .int .i64 x] w' fun e w'' => e = .returned (.bool true) ∧ Below w'.heap.size w' w'')
    (hco : ∀ w', Below w.heap.size w w' → Calls Try.prog 14 #[lv, .int .i64 x, .int .i64 st] w' fun e w'' => e = .returned (.tuple #[.int .i64 0, .int .i64 0, .int .i64 6]) ∧ Below w'.heap.size w' w'') :
    Calls Try.prog 13 #[lv, .int .i64 x, .agg #[.string S0, .string S1, .string S2, .string S3, .int .i64 st, .int .i64 0, .int .i64 num, .int .i64 den, .int .i64 er, .int .i64 ru, .int .i64 se, .slice (some ⟨b, 0, none⟩) n c]] w fun e w' => e = .returned (.tuple #[.agg #[.string ⟨#[]⟩, .string ⟨#[]⟩, .string ⟨#[]⟩, .string ⟨#[]⟩, .int .i64 0, .int .i64 0, .int .i64 0, .int .i64 0, .int .i64 0, .int .i64 0, .int .i64 0, .slice none 0 0], .int .i64 6]) ∧ Below w.heap.size w w' := by
  have HV := Lib.hid hv
  have HC := Lib.hid hco
  obtain ⟨w0, hw0e⟩ : ∃ w0, w0 = (w.alloc (.cells #[.string S0, .string S1, .string S2, .string S3, .int .i64 st, .int .i64 0, .int .i64 num, .int .i64 den, .int .i64 er, .int .i64 ru, .int .i64 se, .slice (some ⟨b, 0, none⟩) n c] 36)).alloc (.cells #[.string ⟨#[]⟩, .string ⟨#[]⟩, .string ⟨#[]⟩, .string ⟨#[]⟩, .int .i64 0, .int .i64 0, .int .i64 0, .int .i64 0, .int .i64 0, .int .i64 0, .int .i64 0, .slice none 0 0] 36) := ⟨_, rfl⟩
  have eS : (w.alloc (.cells #[.string S0, .string S1, .string S2, .string S3, .int .i64 st, .int .i64 0, .int .i64 num, .int .i64 den, .int .i64 er, .int .i64 ru, .int .i64 se, .slice (some ⟨b, 0, none⟩) n c] 36)).heap.size = w.heap.size + 1 := by simp
  have Y0 : Hid (Below w.heap.size w w0) := Lib.hid (by rw [hw0e]; exact (new_block _).alloc (by simp) _)
  have KA := Lib.hid (show w0.heap[w.heap.size]? = some (.cells #[.string S0, .string S1, .string S2, .string S3, .int .i64 st, .int .i64 0, .int .i64 num, .int .i64 den, .int .i64 er, .int .i64 ru, .int .i64 se, .slice (some ⟨b, 0, none⟩) n c] 36 (0, 0)) by rw [hw0e]; exact (heap_alloc_old _ _ (by simp)).trans (heap_alloc_new w _))
  have KB := Lib.hid (show w0.heap[w.heap.size + 1]? = some (.cells #[.string ⟨#[]⟩, .string ⟨#[]⟩, .string ⟨#[]⟩, .string ⟨#[]⟩, .int .i64 0, .int .i64 0, .int .i64 0, .int .i64 0, .int .i64 0, .int .i64 0, .int .i64 0, .slice none 0 0] 36 (0, 0)) by rw [hw0e, ← eS]; exact heap_alloc_new _ _)
  have TI := Lib.hid fun w' => Rate.time_ok st num den 0 rv w' s0 (by omega) (by omega) (by omega)
  have el0 : Rate.el num den 0 = 0 := by simp [Rate.el]
  rw [el0, Int.add_zero] at TI
  clear el0
  clear hv hco rv
  go_enter Try.func13, Try.ntmps13
  go_upto_region 1 with fail
  rw [← hw0e]
  clear hw0e eS
  obtain ⟨x0, x1, x2, x3, x4, x5, x6, x7, x8, x9, x10, x11⟩ := c12 KA.out
  go_wp2_with fail
  with_reducible refine (TI.out _).mono ?_
  rintro e w1 ⟨rfl, hc⟩
  replace KA := Lib.hid (hb hc KA.out)
  replace KB := Lib.hid (hb hc KB.out)
  replace Y0 := Lib.hid (Buf.then_ Y0.out hc)
  clear hc x0 x1 x2 x3 x4 x5 x6 x7 x8 x9 x10 x11
  go_wp2_with fail
  with_reducible refine (HV.out _ Y0.out).mono ?_
  rintro e w2 ⟨rfl, hc⟩
  replace KA := Lib.hid (hb hc KA.out)
  replace KB := Lib.hid (hb hc KB.out)
  replace Y0 := Lib.hid (Buf.then_ Y0.out hc)
  clear hc
  go_wp2_with fail
  with_reducible refine (HC.out _ Y0.out).mono ?_
  rintro e w3 ⟨rfl, hc⟩
  replace KA := Lib.hid (hb hc KA.out)
  replace KB := Lib.hid (hb hc KB.out)
  replace Y0 := Lib.hid (Buf.then_ Y0.out hc)
  clear hc
  obtain ⟨y0, y1, y2, y3, y4, y5, y6, y7, y8, y9, y10, y11⟩ := c12 KB.out
  obtain ⟨u0, u1, u2, u3, u4, u5, u6, u7, u8, u9, u10, u11⟩ := f12 KB.out
  have Z0 := Lib.hid (st12 KB.out (.string ⟨#[]⟩) (.string ⟨#[]⟩) (.string ⟨#[]⟩) (.string ⟨#[]⟩) (.int .i64 0) (.int .i64 0) (.int .i64 0) (.int .i64 0) (.int .i64 0) (.int .i64 0) (.int .i64 0) (.slice none 0 0))
  have ZB := Lib.hid (Buf.then_ Y0.out (Below.refl w3.heap.size w3))
  have ZW := Lib.hid (Y0.out.trans (bel12 (w := w3) (B := w.heap.size) (g := w.heap.size + 1) (by omega) (.string ⟨#[]⟩) (.string ⟨#[]⟩) (.string ⟨#[]⟩) (.string ⟨#[]⟩) (.int .i64 0) (.int .i64 0) (.int .i64 0) (.int .i64 0) (.int .i64 0) (.int .i64 0) (.int .i64 0) (.slice none 0 0)))
  go_wp2_with fail
  exact bodyPost_ret (Res.row_tmp rfl _ _ (w.heap.size + 1) _ _ _ _ rfl Z0.out rfl (by rfl) rfl) rfl ⟨rfl, ZW.out⟩
set_option maxHeartbeats 8000000 in
set_option maxRecDepth 100000 in
theorem apply_ok {w : World} {b n c : Nat} {xs : List Int} (lv : Value) (x : Int) (S0 S1 S2 S3 : ByteArray) (st num den er ru se : Int) (rv : Rate.RV num den) (s0 : 0 ≤ st) (s9 : st ≤ 65535)
    (hv : ∀ w', Below w.heap.size w w' → Calls Try.prog 26 #[lv, .int .i64 x] w' fun e w'' => e = .returned (.bool true) ∧ Below w'.heap.size w' w'')
    (t off : Int) (t0 : 0 ≤ t) (t9 : t ≤ 4611686018427387904) (o0 : 0 ≤ off) (o9 : off ≤ 1125899906842624) (r0 : 0 ≤ er) (r9 : er ≤ 500)
    (hco : ∀ w', Below w.heap.size w w' → Calls Try.prog 14 #[lv, .int .i64 x, .int .i64 st] w' fun e w'' => e = .returned (.tuple #[.int .i64 t, .int .i64 off, .int .i64 0]) ∧ Below w'.heap.size w' w'')
    (h : SR w b xs) (hn : n = xs.length) (h1 : 1 ≤ n) (n9 : n ≤ 1000) :
    Calls Try.prog 13 #[lv, .int .i64 x, .agg #[.string S0, .string S1, .string S2, .string S3, .int .i64 st, .int .i64 0, .int .i64 num, .int .i64 den, .int .i64 er, .int .i64 ru, .int .i64 se, .slice (some ⟨b, 0, none⟩) n c]] w fun e w' => (∃ g2 c2, e = .returned (.tuple #[.agg #[.string S0, .string S1, .string S2, .string S3, .int .i64 t, .int .i64 0, .int .i64 num, .int .i64 den, .int .i64 (min (er + off) 1099511627776), .int .i64 ru, .int .i64 se, .slice (some ⟨g2, 0, none⟩) n c2], .int .i64 0]) ∧ SR w' g2 xs ∧ n ≤ c2) ∧ Below w.heap.size w w' := by
  have HV := Lib.hid hv
  have HC := Lib.hid hco
  obtain ⟨w0, hw0e⟩ : ∃ w0, w0 = (w.alloc (.cells #[.string S0, .string S1, .string S2, .string S3, .int .i64 st, .int .i64 0, .int .i64 num, .int .i64 den, .int .i64 er, .int .i64 ru, .int .i64 se, .slice (some ⟨b, 0, none⟩) n c] 36)).alloc (.cells #[.string ⟨#[]⟩, .string ⟨#[]⟩, .string ⟨#[]⟩, .string ⟨#[]⟩, .int .i64 0, .int .i64 0, .int .i64 0, .int .i64 0, .int .i64 0, .int .i64 0, .int .i64 0, .slice none 0 0] 36) := ⟨_, rfl⟩
  have eS : (w.alloc (.cells #[.string S0, .string S1, .string S2, .string S3, .int .i64 st, .int .i64 0, .int .i64 num, .int .i64 den, .int .i64 er, .int .i64 ru, .int .i64 se, .slice (some ⟨b, 0, none⟩) n c] 36)).heap.size = w.heap.size + 1 := by simp
  have Y0 : Hid (Below w.heap.size w w0) := Lib.hid (by rw [hw0e]; exact (new_block _).alloc (by simp) _)
  have KA := Lib.hid (show w0.heap[w.heap.size]? = some (.cells #[.string S0, .string S1, .string S2, .string S3, .int .i64 st, .int .i64 0, .int .i64 num, .int .i64 den, .int .i64 er, .int .i64 ru, .int .i64 se, .slice (some ⟨b, 0, none⟩) n c] 36 (0, 0)) by rw [hw0e]; exact (heap_alloc_old _ _ (by simp)).trans (heap_alloc_new w _))
  have KB := Lib.hid (show w0.heap[w.heap.size + 1]? = some (.cells #[.string ⟨#[]⟩, .string ⟨#[]⟩, .string ⟨#[]⟩, .string ⟨#[]⟩, .int .i64 0, .int .i64 0, .int .i64 0, .int .i64 0, .int .i64 0, .int .i64 0, .int .i64 0, .slice none 0 0] 36 (0, 0)) by rw [hw0e, ← eS]; exact heap_alloc_new _ _)
  have TI := Lib.hid fun w' => Rate.time_ok st num den 0 rv w' s0 (by omega) (by omega) (by omega)
  have el0 : Rate.el num den 0 = 0 := by simp [Rate.el]
  rw [el0, Int.add_zero] at TI
  clear el0
  have CL := Lib.hid fun (w' : World) (h' : Below w.heap.size w w') => clone_ints (c := c) (h.below h') hn h1 n9
  have WI := Lib.hid fun w => Wi.within_yes er 0 1099511627776 w r0 (by omega)
  clear hv hco rv h hn
  go_enter Try.func13, Try.ntmps13
  go_upto_region 1 with fail
  rw [← hw0e]
  clear hw0e eS
  obtain ⟨x0, x1, x2, x3, x4, x5, x6, x7, x8, x9, x10, x11⟩ := c12 KA.out
  go_wp2_with fail
  with_reducible refine (TI.out _).mono ?_
  rintro e w1 ⟨rfl, hc⟩
  replace KA := Lib.hid (hb hc KA.out)
  replace KB := Lib.hid (hb hc KB.out)
  replace Y0 := Lib.hid (Buf.then_ Y0.out hc)
  clear hc x0 x1 x2 x3 x4 x5 x6 x7 x8 x9 x10 x11
  go_wp2_with fail
  with_reducible refine (HV.out _ Y0.out).mono ?_
  rintro e w2 ⟨rfl, hc⟩
  replace KA := Lib.hid (hb hc KA.out)
  replace KB := Lib.hid (hb hc KB.out)
  replace Y0 := Lib.hid (Buf.then_ Y0.out hc)
  clear hc
  go_wp2_with fail
  with_reducible refine (HC.out _ Y0.out).mono ?_
  rintro e w3 ⟨rfl, hc⟩
  replace KA := Lib.hid (hb hc KA.out)
  replace KB := Lib.hid (hb hc KB.out)
  replace Y0 := Lib.hid (Buf.then_ Y0.out hc)
  clear hc
  obtain ⟨x0, x1, x2, x3, x4, x5, x6, x7, x8, x9, x10, x11⟩ := c12 KA.out
  go_wp2_with fail
  with_reducible refine (WI.out _).mono ?_
  rintro e w4 ⟨rfl, m, rfl⟩
  have hc := Buf.below_drewN (Below.refl w3.heap.size w3) m
  replace KA := Lib.hid (hb hc KA.out)
  replace KB := Lib.hid (hb hc KB.out)
  replace Y0 := Lib.hid (Buf.then_ Y0.out hc)
  generalize w3.drewN m = w4 at *
  clear hc x0 x1 x2 x3 x4 x5 x6 x7 x8 x9 x10 x11
  obtain ⟨x0, x1, x2, x3, x4, x5, x6, x7, x8, x9, x10, x11⟩ := c12 KA.out
  obtain ⟨u0, u1, u2, u3, u4, u5, u6, u7, u8, u9, u10, u11⟩ := f12 KA.out
  obtain ⟨mn, hmn⟩ : ∃ mn, mn = min (er + off) 1099511627776 := ⟨_, rfl⟩
  have G1 := Lib.hid ((heap_setCell_same w4 w.heap.size 4 _ _ (.int .i64 t) KA.out).trans (show _ = some (.cells #[.string S0, .string S1, .string S2, .string S3, .int .i64 t, .int .i64 0, .int .i64 num, .int .i64 den, .int .i64 er, .int .i64 ru, .int .i64 se, .slice (some ⟨b, 0, none⟩) n c] 36 (0, 0)) from rfl))
  have G2 := Lib.hid ((heap_setCell_same _ w.heap.size 5 _ _ (.int .i64 0) G1.out).trans (show _ = some (.cells #[.string S0, .string S1, .string S2, .string S3, .int .i64 t, .int .i64 0, .int .i64 num, .int .i64 den, .int .i64 er, .int .i64 ru, .int .i64 se, .slice (some ⟨b, 0, none⟩) n c] 36 (0, 0)) from rfl))
  have Y2 := Lib.hid ((Y0.out.setCell (p := ⟨w.heap.size, 4, none⟩) (Nat.le_refl _) (.int .i64 t)).setCell (p := ⟨w.heap.size, 5, none⟩) (Nat.le_refl _) (.int .i64 0))
  have B2 := Lib.hid ((Below.heap_setCell (w4.setCell ⟨w.heap.size, 4, none⟩ (.int .i64 t)) ⟨w.heap.size, 5, none⟩ (.int .i64 0) (w.heap.size + 1) (by show w.heap.size + 1 ≠ w.heap.size; omega)).trans ((Below.heap_setCell w4 ⟨w.heap.size, 4, none⟩ (.int .i64 t) (w.heap.size + 1) (by show w.heap.size + 1 ≠ w.heap.size; omega)).trans KB.out))
  go_upto_region 10 with fail
  generalize (w4.setCell ⟨w.heap.size, 4, none⟩ (.int .i64 t)).setCell ⟨w.heap.size, 5, none⟩ (.int .i64 0) = w5 at *
  clear KA KB Y0 G1 x0 x1 x2 x3 x4 x5 x6 x7 x8 x9 x10 x11 u0 u1 u2 u3 u4 u5 u6 u7 u8 u9 u10 u11
  replace hmn := Lib.hid hmn
  obtain ⟨x0, x1, x2, x3, x4, x5, x6, x7, x8, x9, x10, x11⟩ := c12 G2.out
  obtain ⟨u0, u1, u2, u3, u4, u5, u6, u7, u8, u9, u10, u11⟩ := f12 G2.out
  have G3 := Lib.hid ((heap_setCell_same _ w.heap.size 8 _ _ (.int .i64 (min (er + off) 1099511627776)) G2.out).trans (show _ = some (.cells #[.string S0, .string S1, .string S2, .string S3, .int .i64 t, .int .i64 0, .int .i64 num, .int .i64 den, .int .i64 (min (er + off) 1099511627776), .int .i64 ru, .int .i64 se, .slice (some ⟨b, 0, none⟩) n c] 36 (0, 0)) from rfl))
  have Y3 := Lib.hid (Y2.out.setCell (p := ⟨w.heap.size, 8, none⟩) (Nat.le_refl _) (.int .i64 (min (er + off) 1099511627776)))
  have B3 := Lib.hid ((Below.heap_setCell w5 ⟨w.heap.size, 8, none⟩ (.int .i64 (min (er + off) 1099511627776)) (w.heap.size + 1) (by show w.heap.size + 1 ≠ w.heap.size; omega)).trans B2.out)
  go_upto_region 11 with fail
  generalize w5.setCell ⟨w.heap.size, 8, none⟩ (.int .i64 (min (er + off) 1099511627776)) = w6 at *
  clear G2 Y2 B2 x0 x1 x2 x3 x4 x5 x6 x7 x8 x9 x10 x11 u0 u1 u2 u3 u4 u5 u6 u7 u8 u9 u10 u11
  obtain ⟨x0, x1, x2, x3, x4, x5, x6, x7, x8, x9, x10, x11⟩ := c12 G3.out
  go_wp2_with fail
  with_reducible refine (CL.out _ Y3.out).mono ?_
  rintro e w7 ⟨⟨g2, c2, rfl, sr, hc2, hg2⟩, hc⟩
  have sz1 := (Array.getElem?_eq_some_iff.1 B3.out).1
  replace G3 := Lib.hid (hb hc G3.out)
  replace B3 := Lib.hid (hb hc B3.out)
  replace Y3 := Lib.hid (Buf.then_ Y3.out hc)
  clear hc x0 x1 x2 x3 x4 x5 x6 x7 x8 x9 x10 x11
  obtain ⟨u0, u1, u2, u3, u4, u5, u6, u7, u8, u9, u10, u11⟩ := f12 G3.out
  obtain ⟨x0, x1, x2, x3, x4, x5, x6, x7, x8, x9, x10, x11⟩ := c12 G3.out
  have G4 := Lib.hid (set12_11 G3.out (.slice (some ⟨g2, 0, none⟩) n c2))
  have Y4 := Lib.hid (Y3.out.setCell (p := ⟨w.heap.size, 11, none⟩) (Nat.le_refl _) (.slice (some ⟨g2, 0, none⟩) n c2))
  have B4 := Lib.hid ((Below.heap_setCell w7 ⟨w.heap.size, 11, none⟩ (.slice (some ⟨g2, 0, none⟩) n c2) (w.heap.size + 1) (by show w.heap.size + 1 ≠ w.heap.size; omega)).trans B3.out)
  have SR4 := Lib.hid (sr.kept (Below.heap_setCell w7 ⟨w.heap.size, 11, none⟩ (.slice (some ⟨g2, 0, none⟩) n c2) g2 (by show g2 ≠ w.heap.size; omega)) (by simp [World.setCell]))
  clear sr
  go_upto_region 12 with fail
  generalize w7.setCell ⟨w.heap.size, 11, none⟩ (.slice (some ⟨g2, 0, none⟩) n c2) = w8 at *
  clear G3 Y3 B3 x0 x1 x2 x3 x4 x5 x6 x7 x8 x9 x10 x11 u0 u1 u2 u3 u4 u5 u6 u7 u8 u9 u10 u11
  obtain ⟨x0, x1, x2, x3, x4, x5, x6, x7, x8, x9, x10, x11⟩ := c12 G4.out
  obtain ⟨y0, y1, y2, y3, y4, y5, y6, y7, y8, y9, y10, y11⟩ := c12 B4.out
  obtain ⟨u0, u1, u2, u3, u4, u5, u6, u7, u8, u9, u10, u11⟩ := f12 B4.out
  have Z0 := Lib.hid (st12 B4.out (.string S0) (.string S1) (.string S2) (.string S3) (.int .i64 t) (.int .i64 0) (.int .i64 num) (.int .i64 den) (.int .i64 (min (er + off) 1099511627776)) (.int .i64 ru) (.int .i64 se) (.slice (some ⟨g2, 0, none⟩) n c2))
  have ZW := Lib.hid (Y4.out.trans (bel12 (w := w8) (B := w.heap.size) (g := w.heap.size + 1) (by omega) (.string S0) (.string S1) (.string S2) (.string S3) (.int .i64 t) (.int .i64 0) (.int .i64 num) (.int .i64 den) (.int .i64 (min (er + off) 1099511627776)) (.int .i64 ru) (.int .i64 se) (.slice (some ⟨g2, 0, none⟩) n c2)))
  have ZS := Lib.hid (SR4.out.kept (w' := ((((((((((((w8.setCell ⟨w.heap.size + 1, 0, none⟩ (.string S0)).setCell ⟨w.heap.size + 1, 1, none⟩ (.string S1)).setCell ⟨w.heap.size + 1, 2, none⟩ (.string S2)).setCell ⟨w.heap.size + 1, 3, none⟩ (.string S3)).setCell ⟨w.heap.size + 1, 4, none⟩ (.int .i64 t)).setCell ⟨w.heap.size + 1, 5, none⟩ (.int .i64 0)).setCell ⟨w.heap.size + 1, 6, none⟩ (.int .i64 num)).setCell ⟨w.heap.size + 1, 7, none⟩ (.int .i64 den)).setCell ⟨w.heap.size + 1, 8, none⟩ (.int .i64 (min (er + off) 1099511627776))).setCell ⟨w.heap.size + 1, 9, none⟩ (.int .i64 ru)).setCell ⟨w.heap.size + 1, 10, none⟩ (.int .i64 se)).setCell ⟨w.heap.size + 1, 11, none⟩ (.slice (some ⟨g2, 0, none⟩) n c2))) (heap12 (g := w.heap.size + 1) w8 (by omega) (.string S0) (.string S1) (.string S2) (.string S3) (.int .i64 t) (.int .i64 0) (.int .i64 num) (.int .i64 den) (.int .i64 (min (er + off) 1099511627776)) (.int .i64 ru) (.int .i64 se) (.slice (some ⟨g2, 0, none⟩) n c2)) (by simp [World.setCell]))
  clear SR4
  go_wp2_with fail
  exact bodyPost_ret (Res.row_tmp rfl _ _ (w.heap.size + 1) _ _ _ _ rfl Z0.out rfl (by rfl) rfl) rfl ⟨⟨g2, c2, rfl, ZS.out, hc2⟩, ZW.out⟩
end Rec
end Go.Proofs.Ytdcjpjdkamlheaa
