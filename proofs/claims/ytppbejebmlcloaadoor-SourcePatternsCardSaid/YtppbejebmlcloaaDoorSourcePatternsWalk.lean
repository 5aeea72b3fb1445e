/- The walk of SourcePatterns. -/
import Derived.Test.YtppbejebmlcloaaDoorSrcP
set_option linter.unusedVariables false
set_option linter.unusedSimpArgs false
namespace Go.Proofs.YtppbejebmlcloaaDoor
open Go.RowKit Dice
namespace Laws
open Sc
set_option maxHeartbeats 8000000 in
set_option maxRecDepth 100000 in
theorem sourcePatterns_walk (a0 : Option Addr) (len0 cap0 : Nat) (z0 : List Int) (w : World) (hm : Mx w) (w0 : Buf.IsRow .i64 w a0 len0 cap0 z0) :
    Calls Tryd.prog 5 #[.slice a0 len0 cap0] w fun e w' => e = .returned (.bool true) ∧ Below w.heap.size w w' := by
  have Sn := Lib.hid Sc.sane_any
  replace hm := Lib.hid hm
  by_cases hs : len0 ≤ 500
  · have hd : decide ((len0 : Int) ≤ 500) = true := by simp; omega
    go_enter Tryd.func5, Tryd.ntmps5
    go_wp2_with (first | (go_at_call 6; refine (light_any _ _ _ _).mono ?_; rintro e w1 ⟨rfl, hw⟩; replace hw := hw.symm; subst hw; rw [hd]) | (go_at_call 8; refine (roll_any a0 len0 cap0 z0 _ w0 hs).mono ?_; rintro e w2 ⟨rfl, hdi⟩))
    refine (source4 hdi).mono ?_
    rintro e w3 ⟨⟨s0, s1, s2, s3, rfl, hs4⟩, hl⟩
    have L0 := Lib.hid hl
    have hg2 : w.heap.size < w3.heap.size := hl.di.lt
    clear hl hdi
    go_upto_region 5 with fail
    obtain ⟨w4, hw4⟩ : ∃ w4, w4 = w3.alloc (.cells #[.string ⟨⟨s0⟩⟩, .string ⟨⟨s1⟩⟩, .string ⟨⟨s2⟩⟩, .string ⟨⟨s3⟩⟩] 28) := ⟨_, rfl⟩
    obtain ⟨q, hq⟩ : ∃ q, q = w3.heap.size := ⟨_, rfl⟩
    have W4 := Lib.hid (show Below w3.heap.size w3 w4 by rw [hw4]; exact new_block _)
    have A4 := Lib.hid (show w4.heap[q]? = some (.cells #[.string ⟨⟨s0⟩⟩, .string ⟨⟨s1⟩⟩, .string ⟨⟨s2⟩⟩, .string ⟨⟨s3⟩⟩] 28 (0, 0)) by rw [hw4, hq]; exact heap_alloc_new w3 _)
    rw [← hw4, ← hq]
    replace L0 := Lib.hid (L0.out.below W4.out)
    have hgq : w.heap.size ≠ q := by omega
    replace hw4 := Lib.hid hw4
    replace hq := Lib.hid hq
    obtain ⟨k0, k1, k2, k3⟩ := Rec.c4 A4.out
    have hl1 := hs4.l1
    go_upto_region 6 with (go_at_call 15; refine (next_any _ L0.out.di (by omega) (by omega)).mono ?_; rintro e w5 ⟨⟨k, rfl, ka, kb⟩, hl⟩)
    obtain ⟨j, rfl⟩ : ∃ j : Nat, k = j := ⟨k.toNat, by omega⟩
    have A5 := Lib.hid ((hl.far.block q (Array.getElem?_eq_some_iff.1 A4.out).1 (by simpa using hgq.symm)).trans A4.out)
    replace L0 := Lib.hid (L0.out.trans hl)
    clear hl
    obtain ⟨u, x, v, hu, hsx⟩ := cut_at s1 j (by omega)
    have e1 := cut_head hsx hu
    have e2 := cut_tail hsx hu
    have hl0 := hs4.l0
    have hl2 := hs4.l2
    have hl3 := hs4.l3
    have hlv : u.length + 1 + v.length = s1.length := by rw [hsx]; simp; omega
    have f0 : ¬ (9223372036854775807 < s0.length + 1) := by omega
    have f1 : ¬ (9223372036854775807 < s0.length + 1 + u.length) := by omega
    have f2 : ¬ (9223372036854775807 < s0.length + 1 + u.length + 1) := by omega
    have f3 : ¬ (9223372036854775807 < s0.length + 1 + u.length + 1 + v.length) := by omega
    have f4 : ¬ (9223372036854775807 < s0.length + 1 + u.length + 1 + v.length + 1) := by omega
    have f5 : ¬ (9223372036854775807 < s0.length + 1 + u.length + 1 + v.length + 1 + s2.length) := by omega
    have f6 : ¬ (9223372036854775807 < s0.length + 1 + u.length + 1 + v.length + 1 + s2.length + 1) := by omega
    have f7 : ¬ (9223372036854775807 < s0.length + 1 + u.length + 1 + v.length + 1 + s2.length + 1 + s3.length) := by omega
    have f8 : ¬ (9223372036854775807 < s0.length + 1 + u.length + 2) := by omega
    have f9 : ¬ (9223372036854775807 < s0.length + 1 + u.length + 2 + s2.length) := by omega
    have f10 : ¬ (9223372036854775807 < s0.length + 1 + u.length + 2 + s2.length + 2) := by omega
    have f11 : ¬ (9223372036854775807 < s0.length + 1 + s1.length) := by omega
    have f12 : ¬ (9223372036854775807 < s0.length + 1 + s1.length + 2) := by omega
    have f13 : ¬ (9223372036854775807 < s0.length + 1 + s1.length + 2 + s2.length) := by omega
    have f14 : ¬ (9223372036854775807 < s0.length + 1 + s1.length + 2 + s2.length + 1) := by omega
    have f15 : ¬ (9223372036854775807 < s0.length + 1 + s1.length + 2 + s2.length + 1 + s3.length) := by omega
    have jb : (j : Int) ≤ s1.length := by omega
    have jb1 : (j : Int) + 1 ≤ s1.length := by omega
    have jw : IntKind.i64.wrap ((j : Int) + 1) = (j : Int) + 1 := IntWalk.i64_in _ (by omega)
    have hlv' := Lib.hid hlv
    have hu' := Lib.hid hu
    clear k0 k1 k2 k3 hlv hu hl0 hl2 hl3
    replace hsx := Lib.hid hsx
    obtain ⟨k0, k1, k2, k3⟩ := Rec.c4 A5.out
    have PE := Lib.hid (pats hs4 hsx.out hu'.out)
    go_region
    rw [cat1 s0 u v s2 s3]
    obtain ⟨w6, hw6⟩ : ∃ w6, w6 = w5.drew := ⟨_, rfl⟩
    have A6 := Lib.hid (show w6.heap[q]? = some (.cells #[.string ⟨⟨s0⟩⟩, .string ⟨⟨s1⟩⟩, .string ⟨⟨s2⟩⟩, .string ⟨⟨s3⟩⟩] 28 (0, 0)) by rw [hw6]; exact A5.out)
    replace L0 := Lib.hid (show Dice.Left w w2 w6 w.heap.size a0 len0 cap0 z0 by rw [hw6]; exact L0.out.below ((Below.refl _ _).drew))
    rw [← hw6]
    clear hw6 k0 k1 k2 k3
    obtain ⟨k0, k1, k2, k3⟩ := Rec.c4 A6.out
    go_upto_region 7 with fail
    go_region
    rw [cat2 s0 u s2]
    obtain ⟨w7, hw7⟩ : ∃ w7, w7 = w6.drew := ⟨_, rfl⟩
    have A7 := Lib.hid (show w7.heap[q]? = some (.cells #[.string ⟨⟨s0⟩⟩, .string ⟨⟨s1⟩⟩, .string ⟨⟨s2⟩⟩, .string ⟨⟨s3⟩⟩] 28 (0, 0)) by rw [hw7]; exact A6.out)
    replace L0 := Lib.hid (show Dice.Left w w2 w7 w.heap.size a0 len0 cap0 z0 by rw [hw7]; exact L0.out.below ((Below.refl _ _).drew))
    rw [← hw7]
    clear hw7 k0 k1 k2 k3
    obtain ⟨k0, k1, k2, k3⟩ := Rec.c4 A7.out
    go_upto_region 9 with fail
    rw [cat3 s0 s1 s2 s3]
    have H7 := Lib.hid (hm.out.next L0.out.di.bel)
    have M1 := Lib.hid PE.out.1
    have M2 := Lib.hid PE.out.2.1
    have M3 := Lib.hid PE.out.2.2.1
    have MR := Lib.hid PE.out.2.2.2
    clear PE
    go_upto_region 10 with (go_at_call 12; refine (M1.out _ H7.out).mono ?_; rintro e w8 ⟨rfl, b8⟩)
    have A8 := Lib.hid (hb b8 A7.out)
    have H8 := Lib.hid (H7.out.next b8)
    replace L0 := Lib.hid (L0.out.below b8)
    clear b8 k0 k1 k2 k3
    obtain ⟨k0, k1, k2, k3⟩ := Rec.c4 A8.out
    go_upto_region 11 with (go_at_call 12; refine (M2.out _ H8.out).mono ?_; rintro e w9 ⟨rfl, b9⟩)
    have A9 := Lib.hid (hb b9 A8.out)
    have H9 := Lib.hid (H8.out.next b9)
    replace L0 := Lib.hid (L0.out.below b9)
    clear b9 k0 k1 k2 k3
    obtain ⟨k0, k1, k2, k3⟩ := Rec.c4 A9.out
    go_upto_region 12 with (go_at_call 12; refine (M3.out _ H9.out).mono ?_; rintro e w10 ⟨rfl, b10⟩)
    have A10 := Lib.hid (hb b10 A9.out)
    have H10 := Lib.hid (H9.out.next b10)
    replace L0 := Lib.hid (L0.out.below b10)
    clear b10 k0 k1 k2 k3
    clear f0 f1 f2 f3 f4 f5 f6 f7 f8 f9 f10 f11 f12 f13 f14 f15 e1 e2 jb jb1 jw M1 M2 M3 w0 A4 A5 A6 A7 A8 A9 H7 H8 H9 W4 hsx hu' hlv' hl1 ka kb
    obtain ⟨d, hdd⟩ : ∃ d, d = w.heap.size := ⟨_, rfl⟩
    rw [← hdd] at L0 hgq ⊢
    replace hdd := Lib.hid hdd
    refine wp_region_noPanic ?_
    refine wp_region_any (by kernel_rfl) ?_
    refine Inv.wpAny_inv (fun k => false) [99, 100, 101, 102, 103, 104, 105, 98, 106, 107, 15, 16] (fun w' => Dice.Left w w2 w' d a0 len0 cap0 z0 ∧ w'.heap[q]? = some (.cells #[.string ⟨⟨s0⟩⟩, .string ⟨⟨s1⟩⟩, .string ⟨⟨s2⟩⟩, .string ⟨⟨s3⟩⟩] 28 (0, 0))) (fun _ w1 w2 => w1.grownBy w2 (some d)) (fun k => ([fun v_ w_ => v_ = .string ⟨⟨j4 s0 (u ++ [42]) s2 [42]⟩⟩, fun v_ w_ => v_ = .agg #[.string ⟨⟨s0⟩⟩, .string ⟨⟨s1⟩⟩, .string ⟨⟨s2⟩⟩, .string ⟨⟨s3⟩⟩], fun v_ w_ => v_ = .pointer (some ⟨d, 0, none⟩), fun v_ w_ => ∃ t0_ t1_ t2_ t3_ : List UInt8, v_ = .agg #[.string ⟨⟨t0_⟩⟩, .string ⟨⟨t1_⟩⟩, .string ⟨⟨t2_⟩⟩, .string ⟨⟨t3_⟩⟩] ∧ Src4 t0_ t1_ t2_ t3_, fun v_ w_ => v_ = .agg #[.string ⟨⟨s0⟩⟩, .string ⟨⟨s1⟩⟩, .string ⟨⟨s2⟩⟩, .string ⟨⟨s3⟩⟩], fun v_ w_ => LV d s0 s1 s2 s3 v_ w_, fun v_ w_ => ∃ vv_ : Value, v_ = .tuple #[vv_, .int .i64 0] ∧ FV (d + 1) s0 (u ++ [42]) s2 [42] s0 s1 s2 s3 vv_ w_, fun v_ w_ => ∃ vv_ : Value, v_ = .tuple #[vv_, .int .i64 0] ∧ FV (d + 1) s0 (u ++ [42]) s2 [42] s0 s1 s2 s3 vv_ w_, fun v_ w_ => FV (d + 1) s0 (u ++ [42]) s2 [42] s0 s1 s2 s3 v_ w_, fun v_ w_ => v_ = .int .i64 0, fun v_ w_ => FV (d + 1) s0 (u ++ [42]) s2 [42] s0 s1 s2 s3 v_ w_, fun v_ w_ => v_ = .int .i64 0] : List (Value → World → Prop)).getD k (fun _ _ => True)) _ (fun σ => by simp only [Inv.putAll, List.foldl_cons, List.foldl_nil, Act.put, List.setIfInBounds_toArray, List.set_cons_zero, List.set_cons_succ]; rfl) (by kernel_rfl) (by kernel_rfl) ?_ ⟨L0.out.below ((Below.refl _ _).drew), A10.out⟩ ?_ ?_ 0 #[true, true, true, true, true, true, true, true, true, true, true, true] (by kernel_rfl) (by kernel_rfl) ?_
    · intro j k v w1 w2 hjk hv hr
      rcases k with _ | k
      · exact hv
      rcases k with _ | k
      · exact hv
      rcases k with _ | k
      · exact hv
      rcases k with _ | k
      · exact hv
      rcases k with _ | k
      · exact hv
      rcases k with _ | k
      · exact (LV.next hv hr)
      rcases k with _ | k
      · exact (by obtain ⟨vv, e, hf⟩ := hv; exact ⟨vv, e, hf.next hr⟩)
      rcases k with _ | k
      · exact (by obtain ⟨vv, e, hf⟩ := hv; exact ⟨vv, e, hf.next hr⟩)
      rcases k with _ | k
      · exact (FV.next hv hr)
      rcases k with _ | k
      · exact hv
      rcases k with _ | k
      · exact (FV.next hv hr)
      rcases k with _ | k
      · exact hv
      · exact hv
    · intro k t hl hd
      rcases k with _ | k
      · exact absurd hl (by decide +kernel)
      rcases k with _ | k
      · exact absurd hl (by decide +kernel)
      rcases k with _ | k
      · exact absurd hl (by decide +kernel)
      rcases k with _ | k
      · exact absurd hl (by decide +kernel)
      rcases k with _ | k
      · exact absurd hl (by decide +kernel)
      rcases k with _ | k
      · exact absurd hl (by decide +kernel)
      rcases k with _ | k
      · exact absurd hl (by decide +kernel)
      rcases k with _ | k
      · exact absurd hl (by decide +kernel)
      rcases k with _ | k
      · exact absurd hl (by decide +kernel)
      rcases k with _ | k
      · exact absurd hl (by decide +kernel)
      rcases k with _ | k
      · exact absurd hl (by decide +kernel)
      rcases k with _ | k
      · exact absurd hl (by decide +kernel)
      · simp at hd
    · show Inv.Steps _ _ _ _ _ _ _ _ [0, 1, 2, 3, 4, 5, 6, 7, 8, 9, 10, 11]
      refine Inv.Steps.go (by decide) (by rfl) (fun σ wx hw hd K hK => ?_) ?_
      · simp only [List.getElem_toArray, List.getElem_cons_zero, List.getElem_cons_succ, Act.put, List.setIfInBounds_toArray, List.set_cons_zero, List.set_cons_succ] at hK ⊢
        go_simp
        exact hK.out _ _ hw (World.grownBy.refl _ _) (rfl)
      refine Inv.Steps.go (by decide) (by rfl) (fun σ wx hw hd K hK => ?_) ?_
      · simp only [List.getElem_toArray, List.getElem_cons_zero, List.getElem_cons_succ, Act.put, List.setIfInBounds_toArray, List.set_cons_zero, List.set_cons_succ] at hK ⊢
        obtain ⟨y0, y1, y2, y3⟩ := Rec.c4 hw.2
        go_simp
        exact hK.out _ _ hw (World.grownBy.refl _ _) (rfl)
      refine Inv.Steps.go (by decide) (by rfl) (fun σ wx hw hd K hK => ?_) ?_
      · simp only [List.getElem_toArray, List.getElem_cons_zero, List.getElem_cons_succ, Act.put, List.setIfInBounds_toArray, List.set_cons_zero, List.set_cons_succ] at hK ⊢
        go_simp
        exact hK.out _ _ hw (World.grownBy.refl _ _) (rfl)
      refine Inv.Steps.go (by decide) (by rfl) (fun σ wx hw hd K hK => ?_) ?_
      · obtain e101 : (σ 101) = .pointer (some ⟨d, 0, none⟩) := hd 2 (some 101) (by kernel_rfl) (by rfl)
        simp only [List.getElem_toArray, List.getElem_cons_zero, List.getElem_cons_succ, Act.put, List.setIfInBounds_toArray, List.set_cons_zero, List.set_cons_succ, e101] at hK ⊢
        go_simp
        go_at_call 9
        refine (source4 hw.1.di).mono ?_
        rintro e w1 ⟨⟨t0, t1, t2, t3, rfl, ht⟩, hl⟩
        dsimp only
        exact hK.out _ _ ⟨hw.1.trans hl, (hl.far.block q (Array.getElem?_eq_some_iff.1 hw.2).1 (by simpa using hgq.symm)).trans hw.2⟩ hl.far (⟨t0, t1, t2, t3, rfl, ht⟩)
      refine Inv.Steps.go (by decide) (by rfl) (fun σ wx hw hd K hK => ?_) ?_
      · simp only [List.getElem_toArray, List.getElem_cons_zero, List.getElem_cons_succ, Act.put, List.setIfInBounds_toArray, List.set_cons_zero, List.set_cons_succ] at hK ⊢
        obtain ⟨y0, y1, y2, y3⟩ := Rec.c4 hw.2
        go_simp
        exact hK.out _ _ hw (World.grownBy.refl _ _) (rfl)
      refine Inv.Steps.go (by decide) (by rfl) (fun σ wx hw hd K hK => ?_) ?_
      · obtain e100 : (σ 100) = .agg #[.string ⟨⟨s0⟩⟩, .string ⟨⟨s1⟩⟩, .string ⟨⟨s2⟩⟩, .string ⟨⟨s3⟩⟩] := hd 1 (some 100) (by kernel_rfl) (by rfl)
        obtain ⟨t0, t1, t2, t3, e102, ht⟩ : ∃ t0_ t1_ t2_ t3_ : List UInt8, (σ 102) = .agg #[.string ⟨⟨t0_⟩⟩, .string ⟨⟨t1_⟩⟩, .string ⟨⟨t2_⟩⟩, .string ⟨⟨t3_⟩⟩] ∧ Src4 t0_ t1_ t2_ t3_ := hd 3 (some 102) (by kernel_rfl) (by rfl)
        obtain e103 : (σ 103) = .agg #[.string ⟨⟨s0⟩⟩, .string ⟨⟨s1⟩⟩, .string ⟨⟨s2⟩⟩, .string ⟨⟨s3⟩⟩] := hd 4 (some 103) (by kernel_rfl) (by rfl)
        simp only [List.getElem_toArray, List.getElem_cons_zero, List.getElem_cons_succ, Act.put, List.setIfInBounds_toArray, List.set_cons_zero, List.set_cons_succ, e100, e102, e103] at hK ⊢
        have hlt := hw.1.di.lt
        go_simp
        exact hK.out _ _ ⟨hw.1.below (new_block _), hb (new_block _) hw.2⟩ (grown_of_below (new_block _)) (⟨wx.heap.size, t0, t1, t2, t3, rfl, ht, heap_alloc_new _ _, by omega⟩)
      refine Inv.Steps.go (by decide) (by rfl) (fun σ wx hw hd K hK => ?_) ?_
      · obtain e99 : (σ 99) = .string ⟨⟨j4 s0 (u ++ [42]) s2 [42]⟩⟩ := hd 0 (some 99) (by kernel_rfl) (by rfl)
        obtain ⟨bb, t0, t1, t2, t3, e104, ht, hbb, nbb⟩ : LV d s0 s1 s2 s3 (σ 104) wx := hd 5 (some 104) (by kernel_rfl) (by rfl)
        simp only [List.getElem_toArray, List.getElem_cons_zero, List.getElem_cons_succ, Act.put, List.setIfInBounds_toArray, List.set_cons_zero, List.set_cons_succ, e99, e104] at hK ⊢
        have hlt := hw.1.di.lt
        go_simp
        go_at_call 16
        refine (select_any hs4.p0 MR.out.1 hs4.p2 part_star [(s0, s1, s2, s3), (t0, t1, t2, t3), (s0, s1, s2, s3)] 3 rfl (by decide) (mem3 hs4 ht) wx bb hbb (hm.out.next hw.1.di.bel)).mono ?_
        rintro e w1 ⟨vv, rfl, ho, hbl⟩
        dsimp only
        exact hK.out _ _ ⟨hw.1.below hbl, hb hbl hw.2⟩ (grown_of_below hbl) (⟨vv, rfl, t0, t1, t2, t3, own_lower ho (by omega)⟩)
      refine Inv.Steps.go (by decide) (by rfl) (fun σ wx hw hd K hK => ?_) ?_
      · obtain ⟨vv, e105, hf⟩ : ∃ vv_ : Value, (σ 105) = .tuple #[vv_, .int .i64 0] ∧ FV (d + 1) s0 (u ++ [42]) s2 [42] s0 s1 s2 s3 vv_ wx := hd 6 (some 105) (by kernel_rfl) (by rfl)
        simp only [List.getElem_toArray, List.getElem_cons_zero, List.getElem_cons_succ, Act.put, List.setIfInBounds_toArray, List.set_cons_zero, List.set_cons_succ, e105] at hK ⊢
        go_simp
        exact hK.out _ _ hw (World.grownBy.refl _ _) (⟨vv, rfl, hf⟩)
      refine Inv.Steps.go (by decide) (by rfl) (fun σ wx hw hd K hK => ?_) ?_
      · obtain ⟨vv, e98, hf⟩ : ∃ vv_ : Value, (σ 98) = .tuple #[vv_, .int .i64 0] ∧ FV (d + 1) s0 (u ++ [42]) s2 [42] s0 s1 s2 s3 vv_ wx := hd 7 (some 98) (by kernel_rfl) (by rfl)
        simp only [List.getElem_toArray, List.getElem_cons_zero, List.getElem_cons_succ, Act.put, List.setIfInBounds_toArray, List.set_cons_zero, List.set_cons_succ, e98] at hK ⊢
        go_simp
        exact hK.out _ _ hw (World.grownBy.refl _ _) (hf)
      refine Inv.Steps.go (by decide) (by rfl) (fun σ wx hw hd K hK => ?_) ?_
      · obtain ⟨vv, e98, hf⟩ : ∃ vv_ : Value, (σ 98) = .tuple #[vv_, .int .i64 0] ∧ FV (d + 1) s0 (u ++ [42]) s2 [42] s0 s1 s2 s3 vv_ wx := hd 7 (some 98) (by kernel_rfl) (by rfl)
        simp only [List.getElem_toArray, List.getElem_cons_zero, List.getElem_cons_succ, Act.put, List.setIfInBounds_toArray, List.set_cons_zero, List.set_cons_succ, e98] at hK ⊢
        go_simp
        exact hK.out _ _ hw (World.grownBy.refl _ _) (rfl)
      refine Inv.Steps.go (by decide) (by rfl) (fun σ wx hw hd K hK => ?_) ?_
      · obtain hf6 : FV (d + 1) s0 (u ++ [42]) s2 [42] s0 s1 s2 s3 (σ 106) wx := hd 8 (some 106) (by kernel_rfl) (by rfl)
        simp only [List.getElem_toArray, List.getElem_cons_zero, List.getElem_cons_succ, Act.put, List.setIfInBounds_toArray, List.set_cons_zero, List.set_cons_succ] at hK ⊢
        go_simp
        exact hK.out _ _ hw (World.grownBy.refl _ _) (hf6)
      refine Inv.Steps.go (by decide) (by rfl) (fun σ wx hw hd K hK => ?_) ?_
      · obtain e107 : (σ 107) = .int .i64 0 := hd 9 (some 107) (by kernel_rfl) (by rfl)
        simp only [List.getElem_toArray, List.getElem_cons_zero, List.getElem_cons_succ, Act.put, List.setIfInBounds_toArray, List.set_cons_zero, List.set_cons_succ, e107] at hK ⊢
        go_simp
        exact hK.out _ _ hw (World.grownBy.refl _ _) (rfl)
      exact Inv.Steps.nil
    · intro σ wx hw hd
      as_aux_lemma =>
        obtain hf15 : FV (d + 1) s0 (u ++ [42]) s2 [42] s0 s1 s2 s3 (σ 15) wx := hd 10 (some 15) (by rfl) (by rfl)
        obtain e16 : (σ 16) = .int .i64 0 := hd 11 (some 16) (by rfl) (by rfl)
        refine Inv.done (by kernel_rfl) (NoPanic.normal ?_)
        obtain ⟨g, cp, n, hn, e15, ⟨c0, c1, c2, c3⟩, ⟨d0, d1, d2, d3⟩⟩ := hf15.two MR.out.2
        rw [e15, e16]
        have HX := Lib.hid (hm.out.next hw.1.di.bel)
        have BX := Lib.hid hw.1.di.bel
        have E3 := Lib.hid fun w' (h' : Below wx.heap.size wx w') => Rec.c4 (hb h' hw.2)
        have E4 := Lib.hid fun w' (h' : Below wx.heap.size wx w') => at_kept h' c0 c1 c2 c3
        have E5 := Lib.hid fun w' (h' : Below wx.heap.size wx w') => at_kept h' d0 d1 d2 d3
        clear hf15 e15 e16 hw c0 c1 c2 c3 d0 d1 d2 d3
        rcases hn with rfl | rfl
        all_goals
          go_wp2_with fail
          refine Buf.region_calm wx (by kernel_rfl) (by kernel_rfl) (Below.refl _ _) ?_
          repeat (go_big_quiet_step ((intro hC; first
            | (go_at_call 7; exact Buf.calm hC (Sn.out _ (HX.out.next hC)))
            | rfl
            | (simp only [(E3.out _ hC).1, (E3.out _ hC).2.1, (E3.out _ hC).2.2.1, (E3.out _ hC).2.2.2, Result.andThen_ok]; exact ⟨trivial, rfl⟩)
            | (simp only [(E4.out _ hC).1, (E4.out _ hC).2.1, (E4.out _ hC).2.2.1, (E4.out _ hC).2.2.2, Result.andThen_ok]; exact ⟨trivial, rfl⟩)
            | (simp only [(E5.out _ hC).1, (E5.out _ hC).2.1, (E5.out _ hC).2.2.1, (E5.out _ hC).2.2.2, Result.andThen_ok]; exact ⟨trivial, rfl⟩))))
          refine wpQuiet_nil ?_
          intro w13 b13
          go_wp2_with fail
          go_ret
          exact ⟨rfl, Buf.then_ BX.out b13⟩
  · have hd : decide ((len0 : Int) ≤ 500) = false := by simp; omega
    go_enter Tryd.func5, Tryd.ntmps5
    go_wp2_with (first | (go_at_call 6; refine (light_any _ _ _ _).mono ?_; rintro e w1 ⟨rfl, rfl⟩; rw [hd]) | (go_at_call 7; refine (Sn.out _ hm.out).mono ?_; rintro e w2 ⟨rfl, hb⟩))
    go_ret
    exact ⟨rfl, hb⟩
end Laws
end Go.Proofs.YtppbejebmlcloaaDoor
