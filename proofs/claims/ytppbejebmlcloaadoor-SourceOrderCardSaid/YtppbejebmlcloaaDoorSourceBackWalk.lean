/- The walk of SourceBack. -/
import Derived.Test.YtppbejebmlcloaaDoorSrcG
import Derived.Deep.DeepCutAuto
set_option linter.unusedVariables false
set_option linter.unusedSimpArgs false
namespace Go.Proofs.YtppbejebmlcloaaDoor
open Go.RowKit Dice
namespace Sc
theorem source4 {W w : World} {g : Nat} {a : Option Addr} {len cap : Nat} {zs : List Int} (h : Di W w g a len cap zs) :
    Calls Tryd.prog 9 #[.pointer (some ⟨g, 0, none⟩)] w fun r w' => (∃ s0 s1 s2 s3 : List UInt8, r = .returned (.agg #[.string ⟨⟨s0⟩⟩, .string ⟨⟨s1⟩⟩, .string ⟨⟨s2⟩⟩, .string ⟨⟨s3⟩⟩]) ∧ Src4 s0 s1 s2 s3) ∧ Dice.Left W w w' g a len cap zs :=
  (Rec.source_any h).mono fun r w' ⟨⟨s0, s1, s2, s3, e, q0, q1, q2, q3⟩, hl⟩ => ⟨⟨s0, s1, s2, s3, e, src4_of q0 q1 q2 q3⟩, hl⟩
theorem Src4.p0 {s0 s1 s2 s3 : List UInt8} (h : Src4 s0 s1 s2 s3) : Part s0 := part_code h.c0 h.len.1
theorem Src4.p1 {s0 s1 s2 s3 : List UInt8} (h : Src4 s0 s1 s2 s3) : Part s1 := part_code h.c1 h.len.2.1
theorem Src4.p2 {s0 s1 s2 s3 : List UInt8} (h : Src4 s0 s1 s2 s3) : Part s2 := part_code h.c2 h.len.2.2.1
theorem Src4.p3 {s0 s1 s2 s3 : List UInt8} (h : Src4 s0 s1 s2 s3) : Part s3 := part_code h.c3 h.len.2.2.2
theorem m4_two {s0 s1 s2 s3 t0 t1 t2 t3 : List UInt8} (h : Src4 s0 s1 s2 s3) (k : Src4 t0 t1 t2 t3) : m4 s0 s1 s2 s3 t0 t1 t2 t3 = decide (s0 = t0 ∧ s1 = t1 ∧ s2 = t2 ∧ s3 = t3) := by
  have a := h.len
  have b := k.len
  unfold m4
  rw [mp_code 17 s0 t0 h.c0 (by omega), mp_code 17 s1 t1 h.c1 (by omega), mp_code 17 s2 t2 h.c2 (by omega), mp_code 17 s3 t3 h.c3 (by omega)]
  simp
theorem m4_self {s0 s1 s2 s3 : List UInt8} (h : Src4 s0 s1 s2 s3) : m4 s0 s1 s2 s3 s0 s1 s2 s3 = true := by
  rw [m4_two h h]; simp
theorem m4_stars {t0 t1 t2 t3 : List UInt8} (k : Src4 t0 t1 t2 t3) : m4 [42] [42] [42] [42] t0 t1 t2 t3 = true := by
  have b := k.len
  unfold m4
  rw [mp_all 17 t0 (by omega), mp_all 17 t1 (by omega), mp_all 17 t2 (by omega), mp_all 17 t3 (by omega)]
  rfl
theorem sz1 (w : World) (o : Obj) : (w.alloc o).heap.size = w.heap.size + 1 := Array.size_push ..
theorem bel2 (w : World) (o p : Obj) : Below w.heap.size w ((w.alloc o).alloc p) := ((Below.refl _ _).alloc (Nat.le_refl _) o).alloc (by rw [sz1]; omega) p
end Sc
namespace Laws
open Sc
set_option maxHeartbeats 8000000 in
set_option maxRecDepth 100000 in
theorem sourceBack_walk (a0 : Option Addr) (len0 cap0 : Nat) (z0 : List Int) (w : World) (hm : Mx w) (w0 : Buf.IsRow .i64 w a0 len0 cap0 z0) :
    Calls Tryd.prog 3 #[.slice a0 len0 cap0] w fun e w' => e = .returned (.bool true) ∧ Below w.heap.size w w' := by
  have Sn := Lib.hid Sc.sane_any
  replace hm := Lib.hid hm
  by_cases hs : len0 ≤ 500
  · have hd : decide ((len0 : Int) ≤ 500) = true := by simp; omega
    go_enter Tryd.func3, Tryd.ntmps3
    go_wp2_with (first | (go_at_call 6; refine (light_any _ _ _ _).mono ?_; rintro e w1 ⟨rfl, hw⟩; replace hw := hw.symm; subst hw; rw [hd]) | (go_at_call 8; refine (roll_any a0 len0 cap0 z0 _ w0 hs).mono ?_; rintro e w2 ⟨rfl, hdi⟩))
    refine (source4 hdi).mono ?_
    rintro e w3 ⟨⟨s0, s1, s2, s3, rfl, hs4⟩, hl⟩
    have L0 := Lib.hid hl
    clear hl
    go_wp2_with fail
    refine (source4 L0.out.di).mono ?_
    rintro e w4 ⟨⟨t0, t1, t2, t3, rfl, ht4⟩, hl⟩
    have B4 := Lib.hid hl.di.bel
    clear hl L0 hdi
    go_upto_region 5 with fail
    have Fm := Lib.hid fun w' => format_any hs4 w'
    have Pa := Lib.hid fun w' h' => parse_any hs4 w' h'
    have Ma := Lib.hid fun w' h' => match_src hs4.p0 hs4.p1 hs4.p2 hs4.p3 hs4 w' h'
    have Mb := Lib.hid fun w' h' => match_src hs4.p0 hs4.p1 hs4.p2 hs4.p3 ht4 w' h'
    have Mc : Hid (∀ w', Mx w' → Calls Tryd.prog 12 #[.string ⟨#[42, 46, 42, 46, 42, 46, 42]⟩, .agg #[.string ⟨⟨t0⟩⟩, .string ⟨⟨t1⟩⟩, .string ⟨⟨t2⟩⟩, .string ⟨⟨t3⟩⟩]] w' fun e w'' =>
      e = .returned (.tuple #[.bool true, .int .i64 0]) ∧ Below w'.heap.size w' w'') := Lib.hid fun w' h' => by
      have h := match_src part_star part_star part_star part_star ht4 w' h'
      rw [m4_stars ht4] at h
      exact h
    rw [m4_self hs4] at Ma
    rw [m4_two hs4 ht4] at Mb
    obtain ⟨ab, hab⟩ : ∃ ab, ab = decide (s0 = t0 ∧ s1 = t1 ∧ s2 = t2 ∧ s3 = t3) := ⟨_, rfl⟩
    rw [← hab] at Mb
    replace hab := Lib.hid hab
    obtain ⟨w5, hw5⟩ : ∃ w5, w5 = (w4.alloc (.cells #[.string ⟨⟨s0⟩⟩, .string ⟨⟨s1⟩⟩, .string ⟨⟨s2⟩⟩, .string ⟨⟨s3⟩⟩] 28)).alloc (.cells #[.string ⟨⟨t0⟩⟩, .string ⟨⟨t1⟩⟩, .string ⟨⟨t2⟩⟩, .string ⟨⟨t3⟩⟩] 28) := ⟨_, rfl⟩
    obtain ⟨q, hq⟩ : ∃ q, q = w4.heap.size := ⟨_, rfl⟩
    have W5 := Lib.hid (show Below w4.heap.size w4 w5 by rw [hw5]; exact bel2 _ _ _)
    have A5 := Lib.hid (show w5.heap[q]? = some (.cells #[.string ⟨⟨s0⟩⟩, .string ⟨⟨s1⟩⟩, .string ⟨⟨s2⟩⟩, .string ⟨⟨s3⟩⟩] 28 (0, 0)) by rw [hw5, hq]; exact (Below.heap_alloc _ _ _ (by rw [sz1]; omega)).trans (heap_alloc_new w4 _))
    have B5 := Lib.hid (show w5.heap[q + 1]? = some (.cells #[.string ⟨⟨t0⟩⟩, .string ⟨⟨t1⟩⟩, .string ⟨⟨t2⟩⟩, .string ⟨⟨t3⟩⟩] 28 (0, 0)) by
      have h := heap_alloc_new (w4.alloc (.cells #[.string ⟨⟨s0⟩⟩, .string ⟨⟨s1⟩⟩, .string ⟨⟨s2⟩⟩, .string ⟨⟨s3⟩⟩] 28)) (.cells #[.string ⟨⟨t0⟩⟩, .string ⟨⟨t1⟩⟩, .string ⟨⟨t2⟩⟩, .string ⟨⟨t3⟩⟩] 28)
      have e : (w4.alloc (.cells #[.string ⟨⟨s0⟩⟩, .string ⟨⟨s1⟩⟩, .string ⟨⟨s2⟩⟩, .string ⟨⟨s3⟩⟩] 28)).heap.size = q + 1 := by rw [hq, sz1]
      rw [e] at h
      rw [hw5]; exact h)
    rw [← hw5, ← hq]
    have H5 := Lib.hid (hm.out.next (Buf.then_ B4.out W5.out))
    replace hw5 := Lib.hid hw5
    replace hq := Lib.hid hq
    clear hs4 ht4
    obtain ⟨k0, k1, k2, k3⟩ := Rec.c4 A5.out
    go_upto_region 6 with (go_at_call 10; refine (Fm.out _).mono ?_; rintro e w6 ⟨rfl, b6⟩)
    have A6 := Lib.hid (hb b6 A5.out)
    have B6 := Lib.hid (hb b6 B5.out)
    have H6 := Lib.hid (H5.out.next b6)
    clear k0 k1 k2 k3
    go_upto_region 7 with (go_at_call 11; refine (Pa.out _ H6.out).mono ?_; rintro e w7 ⟨rfl, b7⟩)
    obtain ⟨w8, hw8⟩ : ∃ w8, w8 = w7.alloc (.cells #[.string ⟨⟨s0⟩⟩, .string ⟨⟨s1⟩⟩, .string ⟨⟨s2⟩⟩, .string ⟨⟨s3⟩⟩] 28) := ⟨_, rfl⟩
    obtain ⟨p, hp⟩ : ∃ p, p = w7.heap.size := ⟨_, rfl⟩
    have W8 := Lib.hid (show Below w7.heap.size w7 w8 by rw [hw8]; exact new_block _)
    have X8 := Lib.hid (show w8.heap[p]? = some (.cells #[.string ⟨⟨s0⟩⟩, .string ⟨⟨s1⟩⟩, .string ⟨⟨s2⟩⟩, .string ⟨⟨s3⟩⟩] 28 (0, 0)) by rw [hw8, hp]; exact heap_alloc_new w7 _)
    have A8 := Lib.hid (hb W8.out (hb b7 A6.out))
    have B8 := Lib.hid (hb W8.out (hb b7 B6.out))
    have H8 := Lib.hid ((H6.out.next b7).next W8.out)
    rw [← hw8, ← hp]
    replace hw8 := Lib.hid hw8
    replace hp := Lib.hid hp
    have BW := Lib.hid (Buf.then_ B4.out (Buf.then_ W5.out (Buf.then_ b6 (Buf.then_ b7 W8.out))))
    obtain ⟨k0, k1, k2, k3⟩ := Rec.c4 A8.out
    go_upto_region 8 with (go_at_call 12; refine (Ma.out _ H8.out).mono ?_; rintro e w9 ⟨rfl, b9⟩)
    have A9 := Lib.hid (hb b9 A8.out)
    have B9 := Lib.hid (hb b9 B8.out)
    have X9 := Lib.hid (hb b9 X8.out)
    have H9 := Lib.hid (H8.out.next b9)
    clear k0 k1 k2 k3
    obtain ⟨k0, k1, k2, k3⟩ := Rec.c4 B9.out
    go_upto_region 9 with (go_at_call 12; refine (Mb.out _ H9.out).mono ?_; rintro e w10 ⟨rfl, b10⟩)
    have A10 := Lib.hid (hb b10 A9.out)
    have B10 := Lib.hid (hb b10 B9.out)
    have X10 := Lib.hid (hb b10 X9.out)
    have H10 := Lib.hid (H9.out.next b10)
    clear k0 k1 k2 k3
    obtain ⟨k0, k1, k2, k3⟩ := Rec.c4 B10.out
    go_upto_region 10 with (go_at_call 12; refine (Mc.out _ H10.out).mono ?_; rintro e w11 ⟨rfl, b11⟩)
    have A11 := Lib.hid (hb b11 A10.out)
    have B11 := Lib.hid (hb b11 B10.out)
    have X11 := Lib.hid (hb b11 X10.out)
    have H11 := Lib.hid (H10.out.next b11)
    clear k0 k1 k2 k3
    obtain ⟨k0, k1, k2, k3⟩ := Rec.c4 A11.out
    obtain ⟨l0, l1, l2, l3⟩ := Rec.c4 B11.out
    obtain ⟨x0, x1, x2, x3⟩ := Rec.c4 X11.out
    by_cases he : s0 = t0 ∧ s1 = t1 ∧ s2 = t2 ∧ s3 = t3
    · obtain ⟨rfl, rfl, rfl, rfl⟩ := he
      obtain rfl : ab = true := by rw [hab.out]; simp
      clear hab
      go_wp2_with (go_at_call 7; refine (Sn.out _ H11.out).mono ?_; rintro e w12 ⟨rfl, b12⟩)
      go_ret
      exact ⟨rfl, Buf.then_ BW.out (Buf.then_ b9 (Buf.then_ b10 (Buf.then_ b11 b12)))⟩
    · obtain rfl : ab = false := by rw [hab.out]; simpa using he
      clear hab
      go_wp2_with (go_at_call 7; refine (Sn.out _ H11.out).mono ?_; rintro e w12 ⟨rfl, b12⟩)
      all_goals first
        | (exact absurd ⟨by assumption, by assumption, by assumption, by assumption⟩ he)
        | (go_ret; exact ⟨rfl, Buf.then_ BW.out (Buf.then_ b9 (Buf.then_ b10 (Buf.then_ b11 b12)))⟩)
  · have hd : decide ((len0 : Int) ≤ 500) = false := by simp; omega
    go_enter Tryd.func3, Tryd.ntmps3
    go_wp2_with (first | (go_at_call 6; refine (light_any _ _ _ _).mono ?_; rintro e w1 ⟨rfl, rfl⟩; rw [hd]) | (go_at_call 7; refine (Sn.out _ hm.out).mono ?_; rintro e w2 ⟨rfl, hb⟩))
    go_ret
    exact ⟨rfl, hb⟩
end Laws
end Go.Proofs.YtppbejebmlcloaaDoor
