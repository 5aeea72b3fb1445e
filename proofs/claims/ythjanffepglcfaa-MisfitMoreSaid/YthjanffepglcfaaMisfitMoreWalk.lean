/- The walk of MisfitMore. -/
import Derived.Test.YthjanffepglcfaaMisP
import Derived.Test.YthjanffepglcfaaMisR
import Derived.Test.YthjanffepglcfaaKeep
import Derived.Test.YthjanffepglcfaaGeoX
import Derived.Test.YthjanffepglcfaaGeoE
import Derived.Test.YthjanffepglcfaaInv
import Derived.Deep.RegionHeld3
set_option linter.unusedVariables false
set_option linter.unusedSimpArgs false
namespace Go.Proofs.Ythjanffepglcfaa
open Go.RowKit
namespace Mis
theorem wprod {u m : Int} (h1 : 1 ≤ u) (h2 : u ≤ 4) (m1 : 1 ≤ m) (m2 : m ≤ 1000) : 0 ≤ u * m ∧ u * m ≤ 4000 := ⟨Int.mul_nonneg (by omega) (by omega), by have := Int.mul_le_mul h2 m2 (by omega) (by omega : (0 : Int) ≤ 4); omega⟩
theorem grown_below {w w' : World} (h : w.grownBy w' none) : Below w.heap.size w w' := (Below.refl _ _).grown h (Nat.le_refl _) fun k hk => by cases hk
theorem set11_10 {w : World} {g : Nat} {a b c d e f s l h p q : Value} {t : TypeId} (hh : w.heap[g]? = some (.cells #[a, b, c, d, e, f, s, l, h, p, q] t (0, 0))) (v : Value) : (w.setCell ⟨g, 10, none⟩ v).heap[g]? = some (.cells #[a, b, c, d, e, f, s, l, h, p, v] t (0, 0)) := (heap_setCell_same w g 10 _ _ v hh).trans rfl
set_option maxHeartbeats 16000000 in
set_option maxRecDepth 100000 in
theorem misfitMore_any (a0 : Option Addr) (len0 cap0 : Nat) (z0 : List Int) (w : World) (w0 : Buf.IsRow .i64 w a0 len0 cap0 z0) :
    Calls Try.prog 3 #[.slice a0 len0 cap0] w fun e w' => e = .returned (.bool true) ∧ Below w.heap.size w w' := by
  obtain ⟨i0, hi0, hz0, hz1, hz2⟩ : ∃ i, Try.prog.info? 37 = some i ∧ i.zero = some (.agg #[.int .i64 0, .int .i64 0, .int .i64 0, .int .i64 0, .int .i64 0, .int .i64 0]) ∧ i.size = 6 ∧ i.bytes = 48 := ⟨_, rfl, by kernel_rfl, by kernel_rfl, by kernel_rfl⟩
  go_enter Try.func3, Try.ntmps3
  go_wp2_with fail
  refine (Src.new_any a0 len0 cap0 z0 w w0).mono ?_
  rintro e0 wA ⟨rfl, m, hd⟩
  have L0 := Lib.hid (Src.Left.refl hd)
  have sA : w.heap.size < wA.heap.size := hd.lt
  have D0 := Lib.hid hd
  clear hd w0
  go_wp2_with fail
  refine (problem_any 20 5 (by decide) (by decide) (by decide) (by decide) L0.out.di).mono ?_
  rintro e0 w2 ⟨⟨a1, a2, a3, d1, d2, d3, s, b1, b2, n, c1, c2, lo, hi, gp, cpp, L, cp, nl, rfl, hnl, P⟩, hl⟩
  have R := Lib.hid (P.rg (by decide))
  have cp0 := P.c0
  have cp9 := P.c9
  have n1 := P.n1
  have n9 := P.n9
  have tv := Lib.hid P.tv
  have pr := Lib.hid P.pr
  have PH := Lib.hid P.ph
  have m1 := P.m1
  have m2 := P.m2
  have m3 := P.gB
  have le := P.le
  have hx := P.mx
  have e1 := P.tv.tv.e1
  have e2 := P.tv.tv.e2
  have e3 := P.pr.1
  replace hnl := Lib.hid hnl
  have s2 : wA.heap.size ≤ w2.heap.size := hl.far.size
  replace L0 := Lib.hid (L0.out.trans hl)
  clear hl P
  obtain ⟨w3, hw3⟩ : ∃ w3, w3 = w2.alloc (.cells #[.int .i64 a1, .int .i64 a2, .int .i64 a3, .int .i64 d1, .int .i64 d2, .int .i64 d3, .int .i64 s, .slice (some ⟨b1, 0, none⟩) n c1, .slice (some ⟨b2, 0, none⟩) n c2, .slice (some ⟨gp, 0, none⟩) nl cpp, .int .i64 cp] 33) := ⟨_, rfl⟩
  have Y1 : Hid (Below w2.heap.size w2 w3) := Lib.hid (by rw [hw3]; exact new_block _)
  have K4 := Lib.hid (show w3.heap[w2.heap.size]? = some (.cells #[.int .i64 a1, .int .i64 a2, .int .i64 a3, .int .i64 d1, .int .i64 d2, .int .i64 d3, .int .i64 s, .slice (some ⟨b1, 0, none⟩) n c1, .slice (some ⟨b2, 0, none⟩) n c2, .slice (some ⟨gp, 0, none⟩) nl cpp, .int .i64 cp] 33 (0, 0)) by rw [hw3]; exact heap_alloc_new w2 _)
  have sb4 : w2.heap.size < w3.heap.size := by rw [hw3]; simp
  go_upto_region 3 with fail
  rw [← hw3]
  clear hw3
  obtain ⟨b4, hb4⟩ : ∃ b4, b4 = w2.heap.size := ⟨_, rfl⟩
  rw [← hb4] at K4 sb4 ⊢
  have hb4l : w2.heap.size ≤ b4 := by omega
  have hb4g : b4 ≤ w2.heap.size := by omega
  clear hb4
  replace tv := Lib.hid (tv.out.below Y1.out)
  replace pr := Lib.hid (pr.out.below Y1.out)
  replace L0 := Lib.hid (L0.out.below Y1.out)
  clear Y1
  have PT := Lib.hid (Src.point_any a1 a2 a3 d1 d2 d3 R.out.bv L0.out.di)
  obtain ⟨f0, f1, f2, f3, f4, f5, f6, f7, f8, f9, f10⟩ := c11 K4.out
  go_wp2_with fail
  refine PT.out.mono ?_
  rintro e0 w4 ⟨⟨x, y, z, rfl, x0, x1, y0, y1, z1, z2⟩, hl⟩
  have S := Lib.hid (Sub.pt x0 x1 y0 y1 z1 z2)
  have s4 : w3.heap.size ≤ w4.heap.size := hl.far.size
  replace K4 := Lib.hid (hl.blk K4.out (by omega))
  replace tv := Lib.hid (Bound.Wide.mk (tv.out.tv.left hl (by omega) (by omega)) tv.out.re)
  replace pr := Lib.hid (pr.out.kept (hl.far.block gp pr.out.1 (by simp; omega)) hl.far.size)
  replace L0 := Lib.hid (L0.out.trans hl)
  clear hl PT f0 f1 f2 f3 f4 f5 f6 f7 f8 f9 f10 x0 x1 y0 y1 z1 z2
  obtain ⟨w5, hw5⟩ : ∃ w5, w5 = w4.alloc (.cells #[.int .i64 x, .int .i64 y, .int .i64 z] 26) := ⟨_, rfl⟩
  have Y1 : Hid (Below w4.heap.size w4 w5) := Lib.hid (by rw [hw5]; exact new_block _)
  have K5 := Lib.hid (show w5.heap[w4.heap.size]? = some (.cells #[.int .i64 x, .int .i64 y, .int .i64 z] 26 (0, 0)) by rw [hw5]; exact heap_alloc_new w4 _)
  have sb5 : w4.heap.size < w5.heap.size := by rw [hw5]; simp
  go_upto_region 4 with fail
  rw [← hw5]
  clear hw5
  obtain ⟨b5, hb5⟩ : ∃ b5, b5 = w4.heap.size := ⟨_, rfl⟩
  rw [← hb5] at K5 sb5 ⊢
  have hb5l : w4.heap.size ≤ b5 := by omega
  have hb5g : b5 ≤ w4.heap.size := by omega
  clear hb5
  replace K4 := Lib.hid (hb Y1.out K4.out)
  replace tv := Lib.hid (tv.out.below Y1.out)
  replace pr := Lib.hid (pr.out.below Y1.out)
  replace L0 := Lib.hid (L0.out.below Y1.out)
  clear Y1
  have hnl' : nl ≤ cpp := by rw [hnl.out]; exact le
  have nl9 : nl ≤ 5 := by rw [hnl.out]; exact n9
  have nl1 : 1 ≤ nl := by rw [hnl.out]; exact n1
  go_cut [6, 7] (fun v6 v7 wx => ∃ b6 b7 : Nat, b6 ≠ b7 ∧ w5.heap.size ≤ b6 ∧ w5.heap.size ≤ b7 ∧ v6 = .pointer (some ⟨b6, 0, none⟩) ∧ v7 = .pointer (some ⟨b7, 0, none⟩) ∧ Hid (wx.heap[b6]? = some (.cells #[.int .i64 a1, .int .i64 a2, .int .i64 a3, .int .i64 d1, .int .i64 d2, .int .i64 d3, .int .i64 s, .slice (some ⟨b1, 0, none⟩) n c1, .slice (some ⟨b2, 0, none⟩) n c2, .slice (some ⟨gp, 0, none⟩) nl cpp, .int .i64 cp] 33 (0, 0))) ∧ Hid (wx.heap[b7]? = some (.cells #[.int .i64 a1, .int .i64 a2, .int .i64 a3, .int .i64 d1, .int .i64 d2, .int .i64 d3, .int .i64 s, .slice (some ⟨b1, 0, none⟩) n c1, .slice (some ⟨b2, 0, none⟩) n c2, .slice (some ⟨gp, 0, none⟩) nl cpp, .int .i64 cp] 33 (0, 0))) ∧ Hid (Below w5.heap.size w5 wx))
  case first =>
    obtain ⟨z0, z1, z2, z3, z4, z5, z6, z7, z8, z9, z10⟩ := c11 K4.out
    have ne1 := World.new_ne w5 _ z1
    go_region_held3 (fun w' => w'.cell? ⟨b4, 0, none⟩ = some (.int .i64 a1) ∧ w'.cell? ⟨b4, 1, none⟩ = some (.int .i64 a2) ∧ w'.cell? ⟨b4, 2, none⟩ = some (.int .i64 a3) ∧ w'.cell? ⟨b4, 3, none⟩ = some (.int .i64 d1) ∧ w'.cell? ⟨b4, 4, none⟩ = some (.int .i64 d2) ∧ w'.cell? ⟨b4, 5, none⟩ = some (.int .i64 d3) ∧ w'.cell? ⟨b4, 6, none⟩ = some (.int .i64 s) ∧ w'.cell? ⟨b4, 7, none⟩ = some (.slice (some ⟨b1, 0, none⟩) n c1) ∧ w'.cell? ⟨b4, 8, none⟩ = some (.slice (some ⟨b2, 0, none⟩) n c2) ∧ w'.cell? ⟨b4, 9, none⟩ = some (.slice (some ⟨gp, 0, none⟩) nl cpp) ∧ w'.cell? ⟨b4, 10, none⟩ = some (.int .i64 cp)) (go_keep) (fail)
    all_goals go_wp2_with fail
    all_goals go_meet
    · exact ⟨w5.heap.size, w5.heap.size + 1, by omega, by omega, by omega, rfl, rfl, Lib.hid (Geo.blk_alloc (Geo.blk_new w5 _) _), Lib.hid (Geo.blk_new1 w5 _ _), Lib.hid (Below.drew (Buf.then_ (new_block _) (new_block _)))⟩
    · exact ⟨w5.heap.size + 1, w5.heap.size, by omega, by omega, by omega, rfl, rfl, Lib.hid (Geo.blk_new1 w5 _ _), Lib.hid (Geo.blk_alloc (Geo.blk_new w5 _) _), Lib.hid (Below.drew (Buf.then_ (new_block _) (new_block _)))⟩
  case rest =>
  obtain ⟨b6, b7, h67, h6, h7, rfl, rfl, K6, K7, Y1⟩ := hcut
  replace K4 := Lib.hid (hb Y1.out K4.out)
  replace K5 := Lib.hid (hb Y1.out K5.out)
  replace tv := Lib.hid (tv.out.below Y1.out)
  replace pr := Lib.hid (pr.out.below Y1.out)
  replace L0 := Lib.hid (L0.out.below Y1.out)
  clear Y1
  have t6 := (Array.getElem?_eq_some_iff.1 K6.out).1
  have t7 := (Array.getElem?_eq_some_iff.1 K7.out).1
  have PHS := Lib.hid (Src.phase_any L0.out.di)
  go_wp2_with fail
  refine PHS.out.mono ?_
  rintro e0 w7 ⟨⟨qx, qy, qz, qE, qL, qW, rfl, i1, i2, i3, i4, i5, i6, i7, i8, i9, i10, i11, i12⟩, hl⟩
  have s7 : wc.heap.size ≤ w7.heap.size := hl.far.size
  replace K4 := Lib.hid (hl.blk K4.out (by omega))
  replace K5 := Lib.hid (hl.blk K5.out (by omega))
  replace K6 := Lib.hid (hl.blk K6.out (by omega))
  replace K7 := Lib.hid (hl.blk K7.out (by omega))
  replace tv := Lib.hid (Bound.Wide.mk (tv.out.tv.left hl (by omega) (by omega)) tv.out.re)
  replace pr := Lib.hid (pr.out.kept (hl.far.block gp pr.out.1 (by simp; omega)) hl.far.size)
  replace L0 := Lib.hid (L0.out.trans hl)
  clear hl PHS
  have Q : Hid (PhS (Ph.mk qx qy qz qE qL qW)) := Lib.hid ⟨i1, i2, i3, i4, i5, i6, by show 0 ≤ qE; omega, by show qE ≤ qL; omega, by show qL ≤ 3298534883328; omega, i11, i12⟩
  clear i1 i2 i3 i4 i5 i6 i7 i8 i9 i10
  obtain ⟨w8, hw8⟩ : ∃ w8, w8 = w7.alloc (.cells #[.int .i64 qx, .int .i64 qy, .int .i64 qz, .int .i64 qE, .int .i64 qL, .int .i64 qW] 37) := ⟨_, rfl⟩
  have Y1 : Hid (Below w7.heap.size w7 w8) := Lib.hid (by rw [hw8]; exact new_block _)
  have K8 := Lib.hid (show w8.heap[w7.heap.size]? = some (.cells #[.int .i64 qx, .int .i64 qy, .int .i64 qz, .int .i64 qE, .int .i64 qL, .int .i64 qW] 37 (0, 0)) by rw [hw8]; exact heap_alloc_new w7 _)
  have sb8 : w7.heap.size < w8.heap.size := by rw [hw8]; simp
  go_upto_region 6 with fail
  rw [← hw8]
  clear hw8
  obtain ⟨b8, hb8⟩ : ∃ b8, b8 = w7.heap.size := ⟨_, rfl⟩
  rw [← hb8] at K8 sb8 ⊢
  have hb8l : w7.heap.size ≤ b8 := by omega
  have hb8g : b8 ≤ w7.heap.size := by omega
  clear hb8
  replace K4 := Lib.hid (hb Y1.out K4.out)
  replace K5 := Lib.hid (hb Y1.out K5.out)
  replace K6 := Lib.hid (hb Y1.out K6.out)
  replace K7 := Lib.hid (hb Y1.out K7.out)
  replace tv := Lib.hid (tv.out.below Y1.out)
  replace pr := Lib.hid (pr.out.below Y1.out)
  replace L0 := Lib.hid (L0.out.below Y1.out)
  clear Y1
  have one : Hid (∀ u ∈ [Value.int .i64 qx, .int .i64 qy, .int .i64 qz, .int .i64 qE, .int .i64 qL, .int .i64 qW], u.oneCell' = true) := Lib.hid (by simp; exact ⟨rfl, rfl, rfl, rfl, rfl, rfl⟩)
  have ec : Hid (cellsP (L ++ [(Ph.mk qx qy qz qE qL qW)]) = cellsP L ++ [.int .i64 qx, .int .i64 qy, .int .i64 qz, .int .i64 qE, .int .i64 qL, .int .i64 qW]) := Lib.hid (cellsP_snoc L (Ph.mk qx qy qz qE qL qW))
  have hw0 : Below w8.heap.size w8 w8.drew := (Below.refl _ _).drew
  refine wp_region_noPanic ?_
  refine wp_region_any (by kernel_rfl) ?_
  refine Inv.wpAny_inv (fun k => k == 13) [30, 31, 32, 33, 34, 35, 36, 37, 38, 39, 40, 41, 42] (fun w' => Below w8.heap.size w8 w') (fun _ w1 w2 => Below w1.heap.size w1 w2) (fun k => ([fun v_ w_ => v_ = .pointer (some ⟨b4, 9, none⟩), fun v_ w_ => v_ = .slice (some ⟨gp, 0, none⟩) nl cpp, fun v_ w_ => v_ = .pointer (some ⟨b4, 9, none⟩), fun v_ w_ => v_ = .slice (some ⟨gp, 0, none⟩) nl cpp, fun v_ w_ => v_ = .int .i64 (nl : Int), fun v_ w_ => v_ = .pointer (some ⟨b4, 9, none⟩), fun v_ w_ => v_ = .slice (some ⟨gp, 0, none⟩) nl cpp, fun v_ w_ => v_ = .int .i64 (nl : Int), fun v_ w_ => v_ = .slice (some ⟨gp, 0, none⟩) nl nl, fun v_ w_ => v_ = .agg #[.int .i64 qx, .int .i64 qy, .int .i64 qz, .int .i64 qE, .int .i64 qL, .int .i64 qW], fun v_ w_ => ∃ b_ : Nat, v_ = .slice (some ⟨b_, 0, none⟩) 1 1 ∧ w_.heap[b_]? = some (.cells #[.int .i64 qx, .int .i64 qy, .int .i64 qz, .int .i64 qE, .int .i64 qL, .int .i64 qW] 37 (0, 0)), fun v_ w_ => w_.ownsRow w8.heap.size 37 6 v_ (nl + 1) (cellsP (L ++ [(Ph.mk qx qy qz qE qL qW)])), fun v_ w_ => v_ = .pointer (some ⟨b6, 9, none⟩), fun v_ w_ => True] : List (Value → World → Prop)).getD k (fun _ _ => True)) _ (fun σ => by simp only [Inv.putAll, List.foldl_cons, List.foldl_nil, Act.put, List.setIfInBounds_toArray, List.set_cons_zero, List.set_cons_succ]; rfl) (by kernel_rfl) (by kernel_rfl) ?_ hw0 ?_ ?_ 1 #[true, true, true, true, true, true, true, true, true, true, true, true, true, false] (by kernel_rfl) (by kernel_rfl) ?_
  · intro j k v w1 w2 hjk hv hr
    rcases k with _ | k
    · exact hv
    rcases k with _ | k
    · exact hv
    rcases k with _ | k
    · exact hv
    rcases k with _ | k
    · exact hv
    rcases k with _ | k
    · exact hv
    rcases k with _ | k
    · exact hv
    rcases k with _ | k
    · exact hv
    rcases k with _ | k
    · exact hv
    rcases k with _ | k
    · exact hv
    rcases k with _ | k
    · exact hv
    rcases k with _ | k
    · exact (by obtain ⟨b, h1, h2⟩ := hv; exact ⟨b, h1, hb hr h2⟩)
    rcases k with _ | k
    · exact (own_below hv hr)
    rcases k with _ | k
    · exact hv
    rcases k with _ | k
    · exact hv
    · exact hv
  · intro k t hl hd
    rcases k with _ | k
    · exact absurd hl (by decide +kernel)
    rcases k with _ | k
    · exact absurd hl (by decide +kernel)
    rcases k with _ | k
    · exact absurd hl (by decide +kernel)
    rcases k with _ | k
    · exact absurd hl (by decide +kernel)
    rcases k with _ | k
    · exact absurd hl (by decide +kernel)
    rcases k with _ | k
    · exact absurd hl (by decide +kernel)
    rcases k with _ | k
    · exact absurd hl (by decide +kernel)
    rcases k with _ | k
    · exact absurd hl (by decide +kernel)
    rcases k with _ | k
    · exact absurd hl (by decide +kernel)
    rcases k with _ | k
    · exact absurd hl (by decide +kernel)
    rcases k with _ | k
    · exact absurd hl (by decide +kernel)
    rcases k with _ | k
    · exact absurd hl (by decide +kernel)
    rcases k with _ | k
    · exact absurd hl (by decide +kernel)
    rcases k with _ | k
    · exact absurd hl (by decide +kernel)
    · simp at hd
  · show Inv.Steps _ _ _ _ _ _ _ _ [0, 1, 2, 3, 4, 5, 6, 7, 8, 9, 10, 11, 12]
    refine Inv.Steps.go (by decide) (by rfl) (fun σ wx hw hd K hK => ?_) ?_
    · simp only [List.getElem_toArray, List.getElem_cons_zero, List.getElem_cons_succ, Act.put, List.setIfInBounds_toArray, List.set_cons_zero, List.set_cons_succ] at hK ⊢
      go_simp
      exact hK.out _ _ hw (Below.refl _ _) (rfl)
    refine Inv.Steps.go (by decide) (by rfl) (fun σ wx hw hd K hK => ?_) ?_
    · obtain e30 : (σ 30) = .pointer (some ⟨b4, 9, none⟩) := hd 0 (some 30) (by kernel_rfl) (by rfl)
      simp only [List.getElem_toArray, List.getElem_cons_zero, List.getElem_cons_succ, Act.put, List.setIfInBounds_toArray, List.set_cons_zero, List.set_cons_succ, e30] at hK ⊢
      obtain ⟨f0, f1, f2, f3, f4, f5, f6, f7, f8, f9, f10⟩ := c11 (hb hw K4.out)
      go_simp
      exact hK.out _ _ hw (Below.refl _ _) (rfl)
    refine Inv.Steps.go (by decide) (by rfl) (fun σ wx hw hd K hK => ?_) ?_
    · simp only [List.getElem_toArray, List.getElem_cons_zero, List.getElem_cons_succ, Act.put, List.setIfInBounds_toArray, List.set_cons_zero, List.set_cons_succ] at hK ⊢
      go_simp
      exact hK.out _ _ hw (Below.refl _ _) (rfl)
    refine Inv.Steps.go (by decide) (by rfl) (fun σ wx hw hd K hK => ?_) ?_
    · obtain e32 : (σ 32) = .pointer (some ⟨b4, 9, none⟩) := hd 2 (some 32) (by kernel_rfl) (by rfl)
      simp only [List.getElem_toArray, List.getElem_cons_zero, List.getElem_cons_succ, Act.put, List.setIfInBounds_toArray, List.set_cons_zero, List.set_cons_succ, e32] at hK ⊢
      obtain ⟨f0, f1, f2, f3, f4, f5, f6, f7, f8, f9, f10⟩ := c11 (hb hw K4.out)
      go_simp
      exact hK.out _ _ hw (Below.refl _ _) (rfl)
    refine Inv.Steps.go (by decide) (by rfl) (fun σ wx hw hd K hK => ?_) ?_
    · obtain e33 : (σ 33) = .slice (some ⟨gp, 0, none⟩) nl cpp := hd 3 (some 33) (by kernel_rfl) (by rfl)
      simp only [List.getElem_toArray, List.getElem_cons_zero, List.getElem_cons_succ, Act.put, List.setIfInBounds_toArray, List.set_cons_zero, List.set_cons_succ, e33] at hK ⊢
      go_simp
      exact hK.out _ _ hw (Below.refl _ _) (rfl)
    refine Inv.Steps.go (by decide) (by rfl) (fun σ wx hw hd K hK => ?_) ?_
    · simp only [List.getElem_toArray, List.getElem_cons_zero, List.getElem_cons_succ, Act.put, List.setIfInBounds_toArray, List.set_cons_zero, List.set_cons_succ] at hK ⊢
      go_simp
      exact hK.out _ _ hw (Below.refl _ _) (rfl)
    refine Inv.Steps.go (by decide) (by rfl) (fun σ wx hw hd K hK => ?_) ?_
    · obtain e35 : (σ 35) = .pointer (some ⟨b4, 9, none⟩) := hd 5 (some 35) (by kernel_rfl) (by rfl)
      simp only [List.getElem_toArray, List.getElem_cons_zero, List.getElem_cons_succ, Act.put, List.setIfInBounds_toArray, List.set_cons_zero, List.set_cons_succ, e35] at hK ⊢
      obtain ⟨f0, f1, f2, f3, f4, f5, f6, f7, f8, f9, f10⟩ := c11 (hb hw K4.out)
      go_simp
      exact hK.out _ _ hw (Below.refl _ _) (rfl)
    refine Inv.Steps.go (by decide) (by rfl) (fun σ wx hw hd K hK => ?_) ?_
    · obtain e36 : (σ 36) = .slice (some ⟨gp, 0, none⟩) nl cpp := hd 6 (some 36) (by kernel_rfl) (by rfl)
      simp only [List.getElem_toArray, List.getElem_cons_zero, List.getElem_cons_succ, Act.put, List.setIfInBounds_toArray, List.set_cons_zero, List.set_cons_succ, e36] at hK ⊢
      go_simp
      exact hK.out _ _ hw (Below.refl _ _) (rfl)
    refine Inv.Steps.go (by decide) (by rfl) (fun σ wx hw hd K hK => ?_) ?_
    · obtain e31 : (σ 31) = .slice (some ⟨gp, 0, none⟩) nl cpp := hd 1 (some 31) (by kernel_rfl) (by rfl)
      obtain e34 : (σ 34) = .int .i64 (nl : Int) := hd 4 (some 34) (by kernel_rfl) (by rfl)
      obtain e37 : (σ 37) = .int .i64 (nl : Int) := hd 7 (some 37) (by kernel_rfl) (by rfl)
      simp only [List.getElem_toArray, List.getElem_cons_zero, List.getElem_cons_succ, Act.put, List.setIfInBounds_toArray, List.set_cons_zero, List.set_cons_succ, e31, e34, e37] at hK ⊢
      have q1 : (nl : Int) ≤ (cpp : Int) := by omega
      go_simp
      exact hK.out _ _ hw (Below.refl _ _) (rfl)
    refine Inv.Steps.go (by decide) (by rfl) (fun σ wx hw hd K hK => ?_) ?_
    · simp only [List.getElem_toArray, List.getElem_cons_zero, List.getElem_cons_succ, Act.put, List.setIfInBounds_toArray, List.set_cons_zero, List.set_cons_succ] at hK ⊢
      obtain ⟨x0, x1, x2, x3, x4, x5⟩ := cell6 (hb hw K8.out)
      go_simp
      exact hK.out _ _ hw (Below.refl _ _) (rfl)
    refine Inv.Steps.go (by decide) (by rfl) (fun σ wx hw hd K hK => ?_) ?_
    · obtain e39 : (σ 39) = .agg #[.int .i64 qx, .int .i64 qy, .int .i64 qz, .int .i64 qE, .int .i64 qL, .int .i64 qW] := hd 9 (some 39) (by kernel_rfl) (by rfl)
      simp only [List.getElem_toArray, List.getElem_cons_zero, List.getElem_cons_succ, Act.put, List.setIfInBounds_toArray, List.set_cons_zero, List.set_cons_succ, e39] at hK ⊢
      go_simp
      exact hK.out _ _ (Buf.then_ hw (new_block _)) (new_block _) (⟨wx.heap.size, rfl, heap_alloc_new _ _⟩)
    refine Inv.Steps.go (by decide) (by rfl) (fun σ wx hw hd K hK => ?_) ?_
    · obtain e38 : (σ 38) = .slice (some ⟨gp, 0, none⟩) nl nl := hd 8 (some 38) (by kernel_rfl) (by rfl)
      obtain ⟨b40, e40, c40⟩ : ∃ b_ : Nat, (σ 40) = .slice (some ⟨b_, 0, none⟩) 1 1 ∧ wx.heap[b_]? = some (.cells #[.int .i64 qx, .int .i64 qy, .int .i64 qz, .int .i64 qE, .int .i64 qL, .int .i64 qW] 37 (0, 0)) := hd 10 (some 40) (by kernel_rfl) (by rfl)
      simp only [List.getElem_toArray, List.getElem_cons_zero, List.getElem_cons_succ, Act.put, List.setIfInBounds_toArray, List.set_cons_zero, List.set_cons_succ, e38, e40] at hK ⊢
      refine wp_grows (.tmp 38) (.tmp 40) 31 rfl 37 i0 (.agg #[.int .i64 0, .int .i64 0, .int .i64 0, .int .i64 0, .int .i64 0, .int .i64 0]) 6 48 Try.underlying31 hi0 hz0 hz1 hz2 rfl (by decide) ⟨gp, 0, none⟩ nl nl (cellsP L) rfl (by rw [cellsP_length, ← hnl.out]) (phR_cells (pr.out.below hw)) ⟨b40, 0, none⟩ 1 1 [.int .i64 qx, .int .i64 qy, .int .i64 qz, .int .i64 qE, .int .i64 qL, .int .i64 qW] rfl rfl (World.news_of_block c40) (by omega) (by unfold maxLen; omega) (by omega) (fun v2 w2 O2 G2 => ?_)
      exact hK.out _ _ (Buf.then_ hw (grown_below G2)) (grown_below G2) (by rw [ec.out]; exact own_mono O2 hw.size)
    refine Inv.Steps.go (by decide) (by rfl) (fun σ wx hw hd K hK => ?_) ?_
    · simp only [List.getElem_toArray, List.getElem_cons_zero, List.getElem_cons_succ, Act.put, List.setIfInBounds_toArray, List.set_cons_zero, List.set_cons_succ] at hK ⊢
      go_simp
      exact hK.out _ _ hw (Below.refl _ _) (rfl)
    exact Inv.Steps.nil
  · intro σ wx hw hd
    obtain O41 : wx.ownsRow w8.heap.size 37 6 (σ 41) (nl + 1) (cellsP (L ++ [(Ph.mk qx qy qz qE qL qW)])) := hd 11 (some 41) (by rfl) (by rfl)
    obtain e42 : (σ 42) = .pointer (some ⟨b6, 9, none⟩) := hd 12 (some 42) (by rfl) (by rfl)
    obtain ⟨ra, rm, rc, e41, hrm⟩ := own_letter O41
    rw [e41] at O41
    simp only [e41, e42]
    have K6x := hb hw K6.out
    obtain ⟨f0, f1, f2, f3, f4, f5, f6, f7, f8, f9, f10⟩ := c11 K6x
    obtain ⟨u0, u1, u2, u3, u4, u5, u6, u7, u8, u9, u10⟩ := f11 K6x
    refine Inv.one (i := 13) (by decide) (by kernel_rfl) (by rfl) (fun K hK => ?_)
    simp only [List.getElem_toArray, List.getElem_cons_zero, List.getElem_cons_succ, Act.put, List.setIfInBounds_toArray, List.set_cons_zero, List.set_cons_succ] at hK ⊢
    go_simp
    refine hK.out _ _ (Inv.done (by kernel_rfl) (NoPanic.normal ?_))
    clear hK K f0 f1 f2 f3 f4 f5 f6 f7 f8 f9 f10 u0 u1 u2 u3 u4 u5 u6 u7 u8 u9 u10 hd e42
    have hl1 : (L ++ [(Ph.mk qx qy qz qE qL qW)]).length = nl + 1 := by rw [List.length_append, ← hnl.out]; rfl
    obtain ⟨gq, cq, hsl, pq, hle, hmx⟩ := own_slice (B := w8.heap.size) (w := wx) (v := .slice ra rm rc) (l := L ++ [(Ph.mk qx qy qz qE qL qW)]) (by unfold OwnP; rw [hl1]; exact O41) (by omega)
    have hgq : w8.heap.size ≤ gq := (O41.lt gq (by rw [hsl]; rfl)).1
    obtain ⟨rfl, rfl⟩ : ra = some ⟨gq, 0, none⟩ ∧ rc = cq := by injection hsl with h1 h2 h3; exact ⟨h1, h3⟩
    rw [hl1] at hle
    have hrm2 := hrm.out
    have hnl2 : Hid (rm = (L ++ [(Ph.mk qx qy qz qE qL qW)]).length) := Lib.hid (by rw [hl1]; exact hrm2)
    have hle2 : Hid (rm ≤ rc) := Lib.hid (by omega)
    clear hsl O41 hmx hle hrm hrm2
    replace hl1 := Lib.hid hl1
    have t8 := (Array.getElem?_eq_some_iff.1 K8.out).1
    obtain ⟨w9, hw9⟩ : ∃ w9, w9 = wx.setCell ⟨b6, 9, none⟩ (.slice (some ⟨gq, 0, none⟩) rm rc) := ⟨_, rfl⟩
    rw [← hw9]
    have FAR : Hid (∀ k, k ≠ b6 → w9.heap[k]? = wx.heap[k]?) := Lib.hid (by intro k hk; rw [hw9]; exact Below.heap_setCell wx ⟨b6, 9, none⟩ _ k hk)
    have SZ9 : Hid (w9.heap.size = wx.heap.size) := Lib.hid (by rw [hw9]; simp [World.setCell])
    replace K6 : Hid (w9.heap[b6]? = some (.cells #[.int .i64 a1, .int .i64 a2, .int .i64 a3, .int .i64 d1, .int .i64 d2, .int .i64 d3, .int .i64 s, .slice (some ⟨b1, 0, none⟩) n c1, .slice (some ⟨b2, 0, none⟩) n c2, .slice (some ⟨gq, 0, none⟩) rm rc, .int .i64 cp] 33 (0, 0))) := Lib.hid (by rw [hw9]; exact cells11_set9 K6x _)
    replace L0 := Lib.hid (show Src.Left w wA w9 w.heap.size a0 m cap0 z0 by rw [hw9]; exact Src.Left.past D0.out (L0.out.below hw) ((Below.refl _ _).setCell (by show wA.heap.size ≤ b6; omega) _))
    clear hw9 K6x
    replace K4 := Lib.hid ((FAR.out _ (by omega)).trans (hb hw K4.out))
    replace K5 := Lib.hid ((FAR.out _ (by omega)).trans (hb hw K5.out))
    replace K7 := Lib.hid ((FAR.out _ (by omega)).trans (hb hw K7.out))
    replace K8 := Lib.hid ((FAR.out _ (by omega)).trans (hb hw K8.out))
    have tv8 := tv.out.below hw
    replace tv : Hid (Bound.Wide w9 s b1 b2 n lo hi) := Lib.hid ⟨tv_kept tv8.tv (FAR.out _ (by omega)) (FAR.out _ (by omega)) (by rw [SZ9.out]; exact Nat.le_refl _), tv8.re⟩
    replace pr := Lib.hid ((pr.out.below hw).kept (FAR.out _ (by omega)) (by rw [SZ9.out]; exact Nat.le_refl _))
    replace pq := Lib.hid (pq.kept (FAR.out _ (by omega)) (by rw [SZ9.out]; exact Nat.le_refl _))
    have s9 : w8.heap.size ≤ w9.heap.size := by rw [SZ9.out]; exact hw.size
    clear FAR SZ9 tv8 hw hw0 one ec
    clear wx
    go_wp2_with fail
    have hw0 : Src.Left w w9 w9.drew w.heap.size a0 m cap0 z0 ∧ w9.drew.heap[b7]? = some (.cells #[.int .i64 a1, .int .i64 a2, .int .i64 a3, .int .i64 d1, .int .i64 d2, .int .i64 d3, .int .i64 s, .slice (some ⟨b1, 0, none⟩) n c1, .slice (some ⟨b2, 0, none⟩) n c2, .slice (some ⟨gp, 0, none⟩) nl cpp, .int .i64 cp] 33 (0, 0)) := ⟨(Src.Left.refl L0.out.di).below ((Below.refl _ _).drew), K7.out⟩
    refine wp_region_noPanic ?_
    refine wp_region_any (by kernel_rfl) ?_
    refine Inv.wpAny_inv (fun k => k == 6) [43, 44, 45, 46, 47, 48] (fun w' => Src.Left w w9 w' w.heap.size a0 m cap0 z0 ∧ w'.heap[b7]? = some (.cells #[.int .i64 a1, .int .i64 a2, .int .i64 a3, .int .i64 d1, .int .i64 d2, .int .i64 d3, .int .i64 s, .slice (some ⟨b1, 0, none⟩) n c1, .slice (some ⟨b2, 0, none⟩) n c2, .slice (some ⟨gp, 0, none⟩) nl cpp, .int .i64 cp] 33 (0, 0))) (fun _ w1 w2 => w1.grownBy w2 (some w.heap.size)) (fun k => ([fun v_ w_ => v_ = .pointer (some ⟨b7, 10, none⟩), fun v_ w_ => v_ = .int .i64 cp, fun v_ w_ => v_ = .pointer (some ⟨w.heap.size, 0, none⟩), fun v_ w_ => ∃ i_v : Int, v_ = .int .i64 i_v ∧ 0 ≤ i_v ∧ i_v < 100, fun v_ w_ => ∃ i_v : Int, v_ = .int .i64 (cp + i_v) ∧ 0 ≤ i_v ∧ i_v < 100, fun v_ w_ => v_ = .pointer (some ⟨b7, 10, none⟩), fun v_ w_ => True] : List (Value → World → Prop)).getD k (fun _ _ => True)) _ (fun σ => by simp only [Inv.putAll, List.foldl_cons, List.foldl_nil, Act.put, List.setIfInBounds_toArray, List.set_cons_zero, List.set_cons_succ]; rfl) (by kernel_rfl) (by kernel_rfl) ?_ hw0 ?_ ?_ 1 #[true, true, true, true, true, true, false] (by kernel_rfl) (by kernel_rfl) ?_
    · intro j k v w1 w2 hjk hv hr
      rcases k with _ | k
      · exact hv
      rcases k with _ | k
      · exact hv
      rcases k with _ | k
      · exact hv
      rcases k with _ | k
      · exact hv
      rcases k with _ | k
      · exact hv
      rcases k with _ | k
      · exact hv
      rcases k with _ | k
      · exact hv
      · exact hv
    · intro k t hl hd
      rcases k with _ | k
      · exact absurd hl (by decide +kernel)
      rcases k with _ | k
      · exact absurd hl (by decide +kernel)
      rcases k with _ | k
      · exact absurd hl (by decide +kernel)
      rcases k with _ | k
      · exact absurd hl (by decide +kernel)
      rcases k with _ | k
      · exact absurd hl (by decide +kernel)
      rcases k with _ | k
      · exact absurd hl (by decide +kernel)
      rcases k with _ | k
      · exact absurd hl (by decide +kernel)
      · simp at hd
    · show Inv.Steps _ _ _ _ _ _ _ _ [0, 1, 2, 3, 4, 5]
      refine Inv.Steps.go (by decide) (by rfl) (fun σ wx hw hd K hK => ?_) ?_
      · simp only [List.getElem_toArray, List.getElem_cons_zero, List.getElem_cons_succ, Act.put, List.setIfInBounds_toArray, List.set_cons_zero, List.set_cons_succ] at hK ⊢
        go_simp
        exact hK.out _ _ hw (World.grownBy.refl _ _) (rfl)
      refine Inv.Steps.go (by decide) (by rfl) (fun σ wx hw hd K hK => ?_) ?_
      · obtain e43 : (σ 43) = .pointer (some ⟨b7, 10, none⟩) := hd 0 (some 43) (by kernel_rfl) (by rfl)
        simp only [List.getElem_toArray, List.getElem_cons_zero, List.getElem_cons_succ, Act.put, List.setIfInBounds_toArray, List.set_cons_zero, List.set_cons_succ, e43] at hK ⊢
        obtain ⟨f0, f1, f2, f3, f4, f5, f6, f7, f8, f9, f10⟩ := c11 hw.2
        go_simp
        exact hK.out _ _ hw (World.grownBy.refl _ _) (rfl)
      refine Inv.Steps.go (by decide) (by rfl) (fun σ wx hw hd K hK => ?_) ?_
      · simp only [List.getElem_toArray, List.getElem_cons_zero, List.getElem_cons_succ, Act.put, List.setIfInBounds_toArray, List.set_cons_zero, List.set_cons_succ] at hK ⊢
        go_simp
        exact hK.out _ _ hw (World.grownBy.refl _ _) (rfl)
      refine Inv.Steps.go (by decide) (by rfl) (fun σ wx hw hd K hK => ?_) ?_
      · obtain e45 : (σ 45) = .pointer (some ⟨w.heap.size, 0, none⟩) := hd 2 (some 45) (by kernel_rfl) (by rfl)
        simp only [List.getElem_toArray, List.getElem_cons_zero, List.getElem_cons_succ, Act.put, List.setIfInBounds_toArray, List.set_cons_zero, List.set_cons_succ, e45] at hK ⊢
        go_simp
        go_at_call 17
        refine (Src.n_any 100 hw.1.di (by omega) (by omega)).mono ?_
        rintro e w1 ⟨⟨iv, rfl, iv0, iv1⟩, hl⟩
        dsimp only
        exact hK.out _ _ ⟨hw.1.trans hl, lblk hl hw.2 (by omega)⟩ hl.far (⟨iv, rfl, iv0, iv1⟩)
      refine Inv.Steps.go (by decide) (by rfl) (fun σ wx hw hd K hK => ?_) ?_
      · obtain e44 : (σ 44) = .int .i64 cp := hd 1 (some 44) (by kernel_rfl) (by rfl)
        obtain ⟨iv, e46, iv0, iv1⟩ : ∃ i_v : Int, (σ 46) = .int .i64 i_v ∧ 0 ≤ i_v ∧ i_v < 100 := hd 3 (some 46) (by kernel_rfl) (by rfl)
        simp only [List.getElem_toArray, List.getElem_cons_zero, List.getElem_cons_succ, Act.put, List.setIfInBounds_toArray, List.set_cons_zero, List.set_cons_succ, e44, e46] at hK ⊢
        have qw : IntKind.i64.wrap (cp + iv) = cp + iv := IntWalk.i64_in _ (by omega)
        go_simp
        first | rw [qw] | skip
        exact hK.out _ _ hw (World.grownBy.refl _ _) (⟨iv, rfl, iv0, iv1⟩)
      refine Inv.Steps.go (by decide) (by rfl) (fun σ wx hw hd K hK => ?_) ?_
      · simp only [List.getElem_toArray, List.getElem_cons_zero, List.getElem_cons_succ, Act.put, List.setIfInBounds_toArray, List.set_cons_zero, List.set_cons_succ] at hK ⊢
        go_simp
        exact hK.out _ _ hw (World.grownBy.refl _ _) (rfl)
      exact Inv.Steps.nil
    · intro σ wx hw hd
      obtain ⟨iv, e47, iv0, iv1⟩ : ∃ i_v : Int, (σ 47) = .int .i64 (cp + i_v) ∧ 0 ≤ i_v ∧ i_v < 100 := hd 4 (some 47) (by rfl) (by rfl)
      obtain e48 : (σ 48) = .pointer (some ⟨b7, 10, none⟩) := hd 5 (some 48) (by rfl) (by rfl)
      simp only [e47, e48]
      have K7x := hw.2
      have hl := hw.1
      obtain ⟨f0, f1, f2, f3, f4, f5, f6, f7, f8, f9, f10⟩ := c11 K7x
      obtain ⟨u0, u1, u2, u3, u4, u5, u6, u7, u8, u9, u10⟩ := f11 K7x
      refine Inv.one (i := 6) (by decide) (by kernel_rfl) (by rfl) (fun K hK => ?_)
      simp only [List.getElem_toArray, List.getElem_cons_zero, List.getElem_cons_succ, Act.put, List.setIfInBounds_toArray, List.set_cons_zero, List.set_cons_succ] at hK ⊢
      go_simp
      refine hK.out _ _ (Inv.done (by kernel_rfl) (NoPanic.normal ?_))
      clear hK K f0 f1 f2 f3 f4 f5 f6 f7 f8 f9 f10 u0 u1 u2 u3 u4 u5 u6 u7 u8 u9 u10 hd e47 e48
      obtain ⟨cr, hcr⟩ : ∃ cr, cr = cp + iv := ⟨_, rfl⟩
      rw [← hcr]
      have cr0 : cp ≤ cr := by omega
      have cr9 : cr ≤ 2000 := by omega
      obtain ⟨w10, hw10⟩ : ∃ w10, w10 = wx.setCell ⟨b7, 10, none⟩ (.int .i64 cr) := ⟨_, rfl⟩
      rw [← hw10]
      have FAR : Hid (∀ k, k ≠ b7 → w10.heap[k]? = wx.heap[k]?) := Lib.hid (by intro k hk; rw [hw10]; exact Below.heap_setCell wx ⟨b7, 10, none⟩ _ k hk)
      have SZ9 : Hid (w10.heap.size = wx.heap.size) := Lib.hid (by rw [hw10]; simp [World.setCell])
      replace K7 : Hid (w10.heap[b7]? = some (.cells #[.int .i64 a1, .int .i64 a2, .int .i64 a3, .int .i64 d1, .int .i64 d2, .int .i64 d3, .int .i64 s, .slice (some ⟨b1, 0, none⟩) n c1, .slice (some ⟨b2, 0, none⟩) n c2, .slice (some ⟨gp, 0, none⟩) nl cpp, .int .i64 cr] 33 (0, 0))) := Lib.hid (by rw [hw10]; exact set11_10 K7x _)
      replace L0 := Lib.hid (show Src.Left w wA w10 w.heap.size a0 m cap0 z0 by rw [hw10]; exact Src.Left.past D0.out (L0.out.trans hl) ((Below.refl _ _).setCell (by show wA.heap.size ≤ b7; omega) _))
      clear hw10 K7x hcr iv0 iv1
      replace K4 := Lib.hid ((FAR.out _ (by omega)).trans (hl.blk K4.out (by omega)))
      replace K5 := Lib.hid ((FAR.out _ (by omega)).trans (hl.blk K5.out (by omega)))
      replace K6 := Lib.hid ((FAR.out _ (by omega)).trans (hl.blk K6.out (by omega)))
      replace K8 := Lib.hid ((FAR.out _ (by omega)).trans (hl.blk K8.out (by omega)))
      replace tv : Hid (Bound.Wide w10 s b1 b2 n lo hi) := Lib.hid ⟨tv_kept (tv.out.tv.left hl (by omega) (by omega)) (FAR.out _ (by omega)) (FAR.out _ (by omega)) (by rw [SZ9.out]; exact Nat.le_refl _), tv.out.re⟩
      replace pr := Lib.hid ((pr.out.kept (hl.far.block gp pr.out.1 (by simp; omega)) hl.far.size).kept (FAR.out _ (by omega)) (by rw [SZ9.out]; exact Nat.le_refl _))
      replace pq := Lib.hid ((pq.out.kept (hl.far.block gq pq.out.1 (by simp; omega)) hl.far.size).kept (FAR.out _ (by omega)) (by rw [SZ9.out]; exact Nat.le_refl _))
      have BW := Lib.hid L0.out.di.bel
      clear FAR SZ9 hl hw hw0 L0 D0
      clear wx
      have A1 := Lib.hid fun (w' : World) (h1 : Bound.Wide w' s b1 b2 n lo hi) (h2 : PhR w' gp L) => at_of (w := w') R.out h1 PH.out.s n1 (by omega) cp0 (by omega : cp ≤ 2000) h2 hnl.out hnl' c1 c2 x y z S.out
      have A2 := Lib.hid fun (w' : World) (h1 : Bound.Wide w' s b1 b2 n lo hi) (h2 : PhR w' gq (L ++ [(Ph.mk qx qy qz qE qL qW)])) => at_of (w := w') R.out h1 (snoc_s PH.out.s Q.out) (by rw [hl1.out]; omega) (by rw [hl1.out]; omega) cp0 (by omega : cp ≤ 2000) h2 hnl2.out hle2.out c1 c2 x y z S.out
      have A3 := Lib.hid fun (w' : World) (h1 : Bound.Wide w' s b1 b2 n lo hi) (h2 : PhR w' gp L) => at_of (w := w') R.out h1 PH.out.s n1 (by omega) (by omega : 1 ≤ cr) cr9 h2 hnl.out hnl' c1 c2 x y z S.out
      obtain ⟨g1, g2⟩ := mf_more R.out S.out tv.out PH.out.s n1 cp0 Q.out
      have g3 := mf_cap R.out S.out tv.out PH.out.s n1 cp0 cr0
      have bd : Hid (_) := Lib.hid (best_bd R.out S.out tv.out PH.out.s n1 (by omega) cp0 (by omega : cp ≤ 2000))
      change Hid (0 ≤ (mf s lo hi cp x y z x y z L).2 ∧ (mf s lo hi cp x y z x y z L).2 ≤ 12800000 ∧ -1125899906842624 ≤ (mf s lo hi cp x y z x y z L).1 ∧ (mf s lo hi cp x y z x y z L).1 ≤ 1125899906842624) at bd
      generalize mf s lo hi cp x y z x y z (L ++ [(Ph.mk qx qy qz qE qL qW)]) = rq at *
      generalize hcc : mf s lo hi cr x y z x y z L = rr at *
      replace hcc := Lib.hid hcc
      generalize mf s lo hi cp x y z x y z L = rp at *
      obtain ⟨tq, vq⟩ := rq
      obtain ⟨tr, vr⟩ := rr
      obtain ⟨tp, vp⟩ := rp
      dsimp only at A1 A2 A3 g1 g2 g3 bd
      obtain ⟨v0, v9, _, _⟩ := bd.out
      obtain ⟨PP, hPP⟩ : ∃ PP, qW * cp = PP := ⟨_, rfl⟩
      have pp := wprod (u := qW) (m := cp) i11 i12 cp0 cp9
      rw [hPP] at pp
      have g2' : vq ≤ vp + PP := by rw [← hPP]; exact g2
      have hwP : IntKind.i64.wrap (qW * cp) = PP := by rw [hPP]; exact IntWalk.i64_in _ (by omega)
      replace hPP := Lib.hid hPP
      clear bd g2
      obtain ⟨f0, f1, f2, f3, f4, f5, f6, f7, f8, f9, f10⟩ := c11 K4.out
      obtain ⟨y0, y1, y2⟩ := cell3 K5.out
      go_wp2_with fail
      with_reducible refine (A1.out _ tv.out pr.out).mono ?_
      rintro e0 w11 ⟨rfl, hc⟩
      replace K4 := Lib.hid (hb hc K4.out)
      replace K5 := Lib.hid (hb hc K5.out)
      replace K6 := Lib.hid (hb hc K6.out)
      replace K7 := Lib.hid (hb hc K7.out)
      replace K8 := Lib.hid (hb hc K8.out)
      replace tv := Lib.hid (tv.out.below hc)
      replace pr := Lib.hid (pr.out.below hc)
      replace pq := Lib.hid (pq.out.below hc)
      replace BW := Lib.hid (Buf.then_ BW.out hc)
      clear hc A1 f0 f1 f2 f3 f4 f5 f6 f7 f8 f9 f10 y0 y1 y2
      obtain ⟨f0, f1, f2, f3, f4, f5, f6, f7, f8, f9, f10⟩ := c11 K6.out
      obtain ⟨y0, y1, y2⟩ := cell3 K5.out
      go_wp2_with fail
      with_reducible refine (A2.out _ tv.out pq.out).mono ?_
      rintro e0 w12 ⟨rfl, hc⟩
      replace K4 := Lib.hid (hb hc K4.out)
      replace K5 := Lib.hid (hb hc K5.out)
      replace K6 := Lib.hid (hb hc K6.out)
      replace K7 := Lib.hid (hb hc K7.out)
      replace K8 := Lib.hid (hb hc K8.out)
      replace tv := Lib.hid (tv.out.below hc)
      replace pr := Lib.hid (pr.out.below hc)
      replace BW := Lib.hid (Buf.then_ BW.out hc)
      clear hc A2 pq f0 f1 f2 f3 f4 f5 f6 f7 f8 f9 f10 y0 y1 y2
      obtain ⟨f0, f1, f2, f3, f4, f5, f6, f7, f8, f9, f10⟩ := c11 K7.out
      obtain ⟨y0, y1, y2⟩ := cell3 K5.out
      go_wp2_with fail
      with_reducible refine (A3.out _ tv.out pr.out).mono ?_
      rintro e0 w13 ⟨rfl, hc⟩
      replace K4 := Lib.hid (hb hc K4.out)
      replace K5 := Lib.hid (hb hc K5.out)
      replace K6 := Lib.hid (hb hc K6.out)
      replace K7 := Lib.hid (hb hc K7.out)
      replace K8 := Lib.hid (hb hc K8.out)
      replace BW := Lib.hid (Buf.then_ BW.out hc)
      clear hc A3 pr tv f0 f1 f2 f3 f4 f5 f6 f7 f8 f9 f10 y0 y1 y2
      obtain ⟨f0, f1, f2, f3, f4, f5, f6, f7, f8, f9, f10⟩ := c11 K4.out
      obtain ⟨y0, y1, y2, y3, y4, y5⟩ := cell6 K8.out
      go_wp2_with (go_at_call 19; refine (awake_any _).mono ?_; rintro e0 w15 ⟨rfl, hc⟩; replace BW := Lib.hid (Buf.then_ BW.out hc); clear hc)
      go_ret
      exact ⟨rfl, BW.out⟩
end Mis
namespace Laws
theorem misfitMore_walk (a0 : Option Addr) (len0 cap0 : Nat) (z0 : List Int) (w : World) (w0 : Buf.IsRow .i64 w a0 len0 cap0 z0) :
    Calls Try.prog 3 #[.slice a0 len0 cap0] w fun e w' => e = .returned (.bool true) ∧ Below w.heap.size w w' := Mis.misfitMore_any a0 len0 cap0 z0 w w0
end Laws
end Go.Proofs.Ythjanffepglcfaa
