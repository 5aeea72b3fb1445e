/- The walk of MisfitShift. -/
import Derived.Test.YthjanffepglcfaaMisP
import Derived.Test.YthjanffepglcfaaMisR
import Derived.Test.YthjanffepglcfaaKeep
set_option linter.unusedVariables false
set_option linter.unusedSimpArgs false
namespace Go.Proofs.Ythjanffepglcfaa
open Go.RowKit
namespace Mis
/-- The memory of the loop. -/
structure SM (W : World) (b6 b7 b8 : Nat) (o6 o7 : Obj) (C8 : Value → Array Value) (s : Int) (b1 b2 n : Nat) (lo hi : List Int) (gp : Nat) (L : List Ph) (wr : World) (v8 vo : Value) (no : Nat) (xs : List Value) : Prop where
  bel : Below W.heap.size W wr
  own : wr.ownsRow (b8 + 1) 37 6 vo no xs
  k6 : wr.heap[b6]? = some o6
  k7 : wr.heap[b7]? = some o7
  k8 : wr.heap[b8]? = some (.cells (C8 v8) 33 (0, 0))
  tv : Bound.Wide wr s b1 b2 n lo hi
  pr : PhR wr gp L
  l8 : W.heap.size ≤ b8
  l6 : b6 < b8
  l7 : b7 < b8
  l1 : b1 < b8
  l2 : b2 < b8
  lg : gp < b8
section
variable {W wr w' : World} {b6 b7 b8 : Nat} {o6 o7 : Obj} {C8 : Value → Array Value} {s : Int} {b1 b2 n : Nat} {lo hi : List Int} {gp : Nat} {L : List Ph} {v8 vo : Value} {no : Nat} {xs : List Value}
theorem SM.lt (M : SM W b6 b7 b8 o6 o7 C8 s b1 b2 n lo hi gp L wr v8 vo no xs) : b8 < wr.heap.size := (Array.getElem?_eq_some_iff.1 M.k8).1
theorem SM.below (M : SM W b6 b7 b8 o6 o7 C8 s b1 b2 n lo hi gp L wr v8 vo no xs) (h : Below wr.heap.size wr w') : SM W b6 b7 b8 o6 o7 C8 s b1 b2 n lo hi gp L w' v8 vo no xs := by
  obtain ⟨be, o, k6, k7, k8, tv, pr, l8, l6, l7, l1, l2, lg⟩ := M
  exact ⟨Buf.then_ be h, own_below o h, hb h k6, hb h k7, hb h k8, tv.below h, pr.below h, l8, l6, l7, l1, l2, lg⟩
theorem SM.set (M : SM W b6 b7 b8 o6 o7 C8 s b1 b2 n lo hi gp L wr v8 vo no xs) {b o : Nat} (v : Value) (hp : b8 < b) (hne : ∀ q, vo.ownBlock = some q → q ≠ b) : SM W b6 b7 b8 o6 o7 C8 s b1 b2 n lo hi gp L (wr.setCell ⟨b, o, none⟩ v) v8 vo no xs := by
  obtain ⟨be, ow, k6, k7, k8, tv, pr, l8, l6, l7, l1, l2, lg⟩ := M
  exact ⟨be.setCell (by show W.heap.size ≤ b; omega) _, own_kept ow fun k hk => Below.heap_setCell wr ⟨b, o, none⟩ v k (hne k hk), st_far k6 (by omega) v, st_far k7 (by omega) v, st_far k8 (by omega) v,
    ⟨tv_kept tv.tv (Below.heap_setCell wr ⟨b, o, none⟩ v b1 (by show b1 ≠ b; omega)) (Below.heap_setCell wr ⟨b, o, none⟩ v b2 (by show b2 ≠ b; omega)) (by simp [World.setCell]), tv.re⟩,
    pr.kept (Below.heap_setCell wr ⟨b, o, none⟩ v gp (by show gp ≠ b; omega)) (by simp [World.setCell]), l8, l6, l7, l1, l2, lg⟩
theorem SM.grow (M : SM W b6 b7 b8 o6 o7 C8 s b1 b2 n lo hi gp L wr v8 vo no xs) (hg : wr.grownBy w' vo.ownBlock) {vo' : Value} {no' : Nat} {xs' : List Value} (ho : w'.ownsRow (b8 + 1) 37 6 vo' no' xs') : SM W b6 b7 b8 o6 o7 C8 s b1 b2 n lo hi gp L w' v8 vo' no' xs' := by
  obtain ⟨be, ow, k6, k7, k8, tv, pr, l8, l6, l7, l1, l2, lg⟩ := M
  have z8 := (Array.getElem?_eq_some_iff.1 k8).1
  have K : ∀ b, b ≤ b8 → w'.heap[b]? = wr.heap[b]? := fun b hb' => hg.block b (by omega) (fun he => by have := (ow.lt b he.symm).1; omega)
  exact ⟨be.grown hg (by omega) fun k hk => by have := (ow.lt k hk).1; omega, ho, (K _ (by omega)).trans k6, (K _ (by omega)).trans k7, (K _ (by omega)).trans k8,
    ⟨tv_kept tv.tv (K _ (by omega)) (K _ (by omega)) hg.size, tv.re⟩, pr.kept (K _ (by omega)) hg.size, l8, l6, l7, l1, l2, lg⟩
theorem SM.store8 (M : SM W b6 b7 b8 o6 o7 C8 s b1 b2 n lo hi gp L wr v8 vo no xs) (hC : ∃ c0 c1 c2 c3 c4 c5 c6 c7 c8 c10 : Value, ∀ u, C8 u = #[c0, c1, c2, c3, c4, c5, c6, c7, c8, u, c10]) (v : Value) : SM W b6 b7 b8 o6 o7 C8 s b1 b2 n lo hi gp L (wr.setCell ⟨b8, 9, none⟩ v) v vo no xs := by
  obtain ⟨be, ow, k6, k7, k8, tv, pr, l8, l6, l7, l1, l2, lg⟩ := M
  obtain ⟨c0, c1, c2, c3, c4, c5, c6, c7, c8, c10, hC⟩ := hC
  rw [hC] at k8
  refine ⟨be.setCell (by show W.heap.size ≤ b8; omega) _, own_far ow (by omega) v, st_far k6 (by omega) v, st_far k7 (by omega) v, ?_,
    ⟨tv_kept tv.tv (Below.heap_setCell wr ⟨b8, 9, none⟩ v b1 (by show b1 ≠ b8; omega)) (Below.heap_setCell wr ⟨b8, 9, none⟩ v b2 (by show b2 ≠ b8; omega)) (by simp [World.setCell]), tv.re⟩,
    pr.kept (Below.heap_setCell wr ⟨b8, 9, none⟩ v gp (by show gp ≠ b8; omega)) (by simp [World.setCell]), l8, l6, l7, l1, l2, lg⟩
  rw [hC]
  exact cells11_set9 k8 v
end
set_option maxHeartbeats 16000000 in
set_option maxRecDepth 100000 in
theorem misfitShift_any (a0 : Option Addr) (len0 cap0 : Nat) (z0 : List Int) (by0 : Int) (w : World) (w0 : Buf.IsRow .i64 w a0 len0 cap0 z0) :
    Calls Try.prog 4 #[.slice a0 len0 cap0, .int .i64 by0] w fun e w' => e = .returned (.bool true) ∧ Below w.heap.size w w' := by
  obtain ⟨i0, hi0, hz0, hz1, hz2⟩ : ∃ i, Try.prog.info? 37 = some i ∧ i.zero = some (.agg #[.int .i64 0, .int .i64 0, .int .i64 0, .int .i64 0, .int .i64 0, .int .i64 0]) ∧ i.size = 6 ∧ i.bytes = 48 := ⟨_, rfl, by kernel_rfl, by kernel_rfl, by kernel_rfl⟩
  go_enter Try.func4, Try.ntmps4
  go_wp2_with fail
  refine (Src.new_any a0 len0 cap0 z0 w w0).mono ?_
  rintro e0 wA ⟨rfl, m, hd⟩
  have L0 := Lib.hid (Src.Left.refl hd)
  have sA : w.heap.size < wA.heap.size := hd.lt
  clear hd w0
  go_wp2_with fail
  refine (problem_any 20 6 (by decide) (by decide) (by decide) (by decide) L0.out.di).mono ?_
  rintro e0 w2 ⟨⟨a1, a2, a3, d1, d2, d3, s, b1, b2, n, c1, c2, lo, hi, gp, cpp, L, cp, nl, rfl, hnl, P⟩, hl⟩
  have R := Lib.hid (P.rg (by decide))
  have cp0 := P.c0
  have cp9 := P.c9
  have n1 := P.n1
  have n9 := P.n9
  have tv := Lib.hid P.tv
  have pr := Lib.hid P.pr
  have PH := Lib.hid P.ph
  have m1 := P.m1
  have m2 := P.m2
  have m3 := P.gB
  have le := P.le
  have hx := P.mx
  have e1 := P.tv.tv.e1
  have e2 := P.tv.tv.e2
  have e3 := P.pr.1
  replace hnl := Lib.hid hnl
  have s2 : wA.heap.size ≤ w2.heap.size := hl.far.size
  replace L0 := Lib.hid (L0.out.trans hl)
  clear hl P
  obtain ⟨w3, hw3⟩ : ∃ w3, w3 = w2.alloc (.cells #[.int .i64 a1, .int .i64 a2, .int .i64 a3, .int .i64 d1, .int .i64 d2, .int .i64 d3, .int .i64 s, .slice (some ⟨b1, 0, none⟩) n c1, .slice (some ⟨b2, 0, none⟩) n c2, .slice (some ⟨gp, 0, none⟩) nl cpp, .int .i64 cp] 33) := ⟨_, rfl⟩
  have Y1 : Hid (Below w2.heap.size w2 w3) := Lib.hid (by rw [hw3]; exact new_block _)
  have K6 := Lib.hid (show w3.heap[w2.heap.size]? = some (.cells #[.int .i64 a1, .int .i64 a2, .int .i64 a3, .int .i64 d1, .int .i64 d2, .int .i64 d3, .int .i64 s, .slice (some ⟨b1, 0, none⟩) n c1, .slice (some ⟨b2, 0, none⟩) n c2, .slice (some ⟨gp, 0, none⟩) nl cpp, .int .i64 cp] 33 (0, 0)) by rw [hw3]; exact heap_alloc_new w2 _)
  have sb6 : w2.heap.size < w3.heap.size := by rw [hw3]; simp
  go_upto_region 3 with fail
  rw [← hw3]
  clear hw3
  obtain ⟨b6, hb6⟩ : ∃ b6, b6 = w2.heap.size := ⟨_, rfl⟩
  rw [← hb6] at K6 sb6 ⊢
  have hb6l : w2.heap.size ≤ b6 := by omega
  have hb6g : b6 ≤ w2.heap.size := by omega
  clear hb6
  replace tv := Lib.hid (tv.out.below Y1.out)
  replace pr := Lib.hid (pr.out.below Y1.out)
  replace L0 := Lib.hid (L0.out.below Y1.out)
  clear Y1
  have PT := Lib.hid (Src.point_any a1 a2 a3 d1 d2 d3 R.out.bv L0.out.di)
  obtain ⟨f0, f1, f2, f3, f4, f5, f6, f7, f8, f9, f10⟩ := c11 K6.out
  go_wp2_with fail
  refine PT.out.mono ?_
  rintro e0 w4 ⟨⟨x, y, z, rfl, x0, x1, y0, y1, z1, z2⟩, hl⟩
  have S := Lib.hid (Sub.pt x0 x1 y0 y1 z1 z2)
  have s4 : w3.heap.size ≤ w4.heap.size := hl.far.size
  replace K6 := Lib.hid (hl.blk K6.out (by omega))
  replace tv := Lib.hid (Bound.Wide.mk (tv.out.tv.left hl (by omega) (by omega)) tv.out.re)
  replace pr := Lib.hid (pr.out.kept (hl.far.block gp pr.out.1 (by simp; omega)) hl.far.size)
  replace L0 := Lib.hid (L0.out.trans hl)
  clear hl PT f0 f1 f2 f3 f4 f5 f6 f7 f8 f9 f10 x0 x1 y0 y1 z1 z2
  obtain ⟨w5, hw5⟩ : ∃ w5, w5 = w4.alloc (.cells #[.int .i64 x, .int .i64 y, .int .i64 z] 26) := ⟨_, rfl⟩
  have Y1 : Hid (Below w4.heap.size w4 w5) := Lib.hid (by rw [hw5]; exact new_block _)
  have K7 := Lib.hid (show w5.heap[w4.heap.size]? = some (.cells #[.int .i64 x, .int .i64 y, .int .i64 z] 26 (0, 0)) by rw [hw5]; exact heap_alloc_new w4 _)
  have sb7 : w4.heap.size < w5.heap.size := by rw [hw5]; simp
  go_upto_region 4 with fail
  rw [← hw5]
  clear hw5
  obtain ⟨b7, hb7⟩ : ∃ b7, b7 = w4.heap.size := ⟨_, rfl⟩
  rw [← hb7] at K7 sb7 ⊢
  have hb7l : w4.heap.size ≤ b7 := by omega
  have hb7g : b7 ≤ w4.heap.size := by omega
  clear hb7
  replace K6 := Lib.hid (hb Y1.out K6.out)
  replace tv := Lib.hid (tv.out.below Y1.out)
  replace pr := Lib.hid (pr.out.below Y1.out)
  replace L0 := Lib.hid (L0.out.below Y1.out)
  clear Y1
  obtain ⟨D, hD⟩ : ∃ D, D = by0 % 1099511627776 := ⟨_, rfl⟩
  have D0 : 0 ≤ D := by omega
  have D9 : D < 1099511627776 := by omega
  go_wp2_with fail
  refine (Keep.mod_any by0 1099511627776 _ (by decide) (by decide)).mono ?_
  rintro e0 wy ⟨rfl, hwy⟩
  replace hwy := hwy.symm
  subst hwy
  rw [← hD]
  clear hD
  have BW := Lib.hid L0.out.di.bel
  clear L0
  obtain ⟨f0, f1, f2, f3, f4, f5, f6, f7, f8, f9, f10⟩ := c11 K6.out
  obtain ⟨w6, hw6⟩ : ∃ w6, w6 = w5.alloc (.cells #[.int .i64 a1, .int .i64 a2, .int .i64 a3, .int .i64 d1, .int .i64 d2, .int .i64 d3, .int .i64 s, .slice (some ⟨b1, 0, none⟩) n c1, .slice (some ⟨b2, 0, none⟩) n c2, .slice (some ⟨gp, 0, none⟩) nl cpp, .int .i64 cp] 33) := ⟨_, rfl⟩
  have Y1 : Hid (Below w5.heap.size w5 w6) := Lib.hid (by rw [hw6]; exact new_block _)
  have K8 := Lib.hid (show w6.heap[w5.heap.size]? = some (.cells #[.int .i64 a1, .int .i64 a2, .int .i64 a3, .int .i64 d1, .int .i64 d2, .int .i64 d3, .int .i64 s, .slice (some ⟨b1, 0, none⟩) n c1, .slice (some ⟨b2, 0, none⟩) n c2, .slice (some ⟨gp, 0, none⟩) nl cpp, .int .i64 cp] 33 (0, 0)) by rw [hw6]; exact heap_alloc_new w5 _)
  have sb8 : w5.heap.size < w6.heap.size := by rw [hw6]; simp
  go_upto_region 6 with fail
  rw [← hw6]
  clear hw6
  obtain ⟨b8, hb8⟩ : ∃ b8, b8 = w5.heap.size := ⟨_, rfl⟩
  rw [← hb8] at K8 sb8 ⊢
  have hb8l : w5.heap.size ≤ b8 := by omega
  have hb8g : b8 ≤ w5.heap.size := by omega
  clear hb8
  clear f0 f1 f2 f3 f4 f5 f6 f7 f8 f9 f10
  have M0 : Hid (SM w b6 b7 b8 (.cells #[.int .i64 a1, .int .i64 a2, .int .i64 a3, .int .i64 d1, .int .i64 d2, .int .i64 d3, .int .i64 s, .slice (some ⟨b1, 0, none⟩) n c1, .slice (some ⟨b2, 0, none⟩) n c2, .slice (some ⟨gp, 0, none⟩) nl cpp, .int .i64 cp] 33 (0, 0)) (.cells #[.int .i64 x, .int .i64 y, .int .i64 z] 26 (0, 0)) (fun v => #[.int .i64 a1, .int .i64 a2, .int .i64 a3, .int .i64 d1, .int .i64 d2, .int .i64 d3, .int .i64 s, .slice (some ⟨b1, 0, none⟩) n c1, .slice (some ⟨b2, 0, none⟩) n c2, v, .int .i64 cp]) s b1 b2 n lo hi gp L (w6.setCell ⟨b8, 9, none⟩ (.slice none 0 0)) (.slice none 0 0) (.slice none 0 0) 0 (cellsP [])) := Lib.hid (SM.store8 (v8 := .slice (some ⟨gp, 0, none⟩) nl cpp) ⟨Buf.then_ BW.out Y1.out, World.ownsRow_nil _ _ _ _, hb Y1.out K6.out, hb Y1.out K7.out, K8.out, tv.out.below Y1.out, pr.out.below Y1.out, by omega, by omega, by omega, by omega, by omega, by omega⟩ ⟨_, _, _, _, _, _, _, _, _, _, fun _ => rfl⟩ (.slice none 0 0))
  obtain ⟨u0, u1, u2, u3, u4, u5, u6, u7, u8, u9, u10⟩ := f11 K8.out
  obtain ⟨f0, f1, f2, f3, f4, f5, f6, f7, f8, f9, f10⟩ := c11 K8.out
  go_upto_region 7 with fail
  generalize w6.setCell ⟨b8, 9, none⟩ (.slice none 0 0) = w7 at *
  clear u0 u1 u2 u3 u4 u5 u6 u7 u8 u9 u10 f0 f1 f2 f3 f4 f5 f6 f7 f8 f9 f10 K6 K7 K8 tv pr BW Y1
  clear sb6 sb7 sb8 s2 s4 sA e1 e2 e3 m1 m2 m3 hb6l hb6g hb7l hb7g hb8l hb8g
  clear w2 w3 w4 w5 w6
  have nl9 : nl ≤ 6 := by rw [hnl.out]; exact n9
  have nl1 : 1 ≤ nl := by rw [hnl.out]; exact n1
  obtain ⟨f0, f1, f2, f3, f4, f5, f6, f7, f8, f9, f10⟩ := c11 M0.out.k6
  go_wp2_with fail
  clear f0 f1 f2 f3 f4 f5 f6 f7 f8 f9 f10
  go_loopw [9] (fun i wr => ∃ (j : Nat) (ad : Option Addr) (kk cc : Nat), i = .int .i64 ((j : Int) - 1) ∧ j ≤ nl ∧ Hid (kk + j = nl) ∧ Hid (SM w b6 b7 b8 (.cells #[.int .i64 a1, .int .i64 a2, .int .i64 a3, .int .i64 d1, .int .i64 d2, .int .i64 d3, .int .i64 s, .slice (some ⟨b1, 0, none⟩) n c1, .slice (some ⟨b2, 0, none⟩) n c2, .slice (some ⟨gp, 0, none⟩) nl cpp, .int .i64 cp] 33 (0, 0)) (.cells #[.int .i64 x, .int .i64 y, .int .i64 z] 26 (0, 0)) (fun v => #[.int .i64 a1, .int .i64 a2, .int .i64 a3, .int .i64 d1, .int .i64 d2, .int .i64 d3, .int .i64 s, .slice (some ⟨b1, 0, none⟩) n c1, .slice (some ⟨b2, 0, none⟩) n c2, v, .int .i64 cp]) s b1 b2 n lo hi gp L wr (.slice ad kk cc) (.slice ad kk cc) kk (cellsP (((L.drop j).map (sh D)).reverse)))) (fun i _ => (intOf i + 1).toNat)
  case atStart => exact ⟨nl, none, 0, 0, congrArg (Value.int .i64) (by omega), Nat.le_refl _, Lib.hid (by omega), by rw [List.drop_of_length_le (by rw [← hnl.out]; omega)]; exact M0⟩
  case round =>
    clear M0
    obtain ⟨j, ad, kk, cc, rfl, hj, hkk, M⟩ := hrel
    by_cases hj0 : 0 < j
    · obtain ⟨j', rfl⟩ : ∃ j', j = j' + 1 := ⟨j - 1, by omega⟩
      have hlt : j' < L.length := by rw [← hnl.out]; omega
      have ei : ((j' + 1 : Nat) : Int) - 1 = (j' : Int) := by omega
      rw [ei]
      have hj0' : (0 : Int) ≤ (j' : Int) := by omega
      have hjn : (j' : Int) < (nl : Int) := by omega
      rcases hq : L[j'] with ⟨qx, qy, qz, qE, qL, qW⟩
      have hq2 : L[j']? = some ⟨qx, qy, qz, qE, qL, qW⟩ := by rw [List.getElem?_eq_getElem hlt, hq]
      have q0 := (PH.out j' _ hq2).e0
      have q1 := (PH.out j' _ hq2).el
      have q9 := (PH.out j' _ hq2).l9
      dsimp only at q0 q1 q9
      obtain ⟨x0, x1, x2, x3, x4, x5⟩ := M.out.pr.2 j' _ hq2
      dsimp only at x0 x1 x2 x3 x4 x5
      replace hq := Lib.hid hq
      replace hq2 := Lib.hid hq2
      obtain ⟨w9, hw9⟩ : ∃ w9, w9 = wr.alloc (.cells #[.int .i64 qx, .int .i64 qy, .int .i64 qz, .int .i64 qE, .int .i64 qL, .int .i64 qW] 37) := ⟨_, rfl⟩
      have Y9 : Hid (Below wr.heap.size wr w9) := Lib.hid (by rw [hw9]; exact new_block _)
      have N := Lib.hid (show w9.heap[wr.heap.size]? = some (.cells #[.int .i64 qx, .int .i64 qy, .int .i64 qz, .int .i64 qE, .int .i64 qL, .int .i64 qW] 37 (0, 0)) by rw [hw9]; exact heap_alloc_new wr _)
      have lb := M.out.lt
      have hne := fun q hq => Nat.ne_of_lt (M.out.own.lt q hq).2
      replace hne := Lib.hid hne
      obtain ⟨f0, f1, f2, f3, f4, f5, f6, f7, f8, f9, f10⟩ := c11 M.out.k6
      replace hw9 := Lib.hid hw9
      go_upto_region 11 with fail
      rw [← hw9.out]
      clear hw9 x0 x1 x2 x3 x4 x5 f0 f1 f2 f3 f4 f5 f6 f7 f8 f9 f10
      replace M := Lib.hid (M.out.below Y9.out)
      clear Y9
      obtain ⟨b10, hb10⟩ : ∃ b10, b10 = wr.heap.size := ⟨_, rfl⟩
      rw [← hb10] at N lb hne ⊢
      clear hb10
      obtain ⟨y0, y1, y2, y3, y4, y5⟩ := cell6 N.out
      obtain ⟨z0', z1, z2, z3, z4, z5⟩ := f6 N.out
      have hE : IntKind.i64.wrap (qE + D) = qE + D := IntWalk.i64_in _ (by omega)
      have hL : IntKind.i64.wrap (qL + D) = qL + D := IntWalk.i64_in _ (by omega)
      have N2 := Lib.hid (set6_3 N.out (.int .i64 (qE + D)))
      have N3 := Lib.hid (set6_4 N2.out (.int .i64 (qL + D)))
      have M2 := Lib.hid ((M.out.set (o := 3) (.int .i64 (qE + D)) lb hne.out).set (o := 4) (.int .i64 (qL + D)) lb hne.out)
      go_upto_region 12 with fail
      clear y0 y1 y2 y3 y4 y5 z0' z1 z2 z3 z4 z5 hE hL N2 M N
      generalize (w9.setCell ⟨b10, 3, none⟩ (.int .i64 (qE + D))).setCell ⟨b10, 4, none⟩ (.int .i64 (qL + D)) = w12 at *
      generalize hEE : qE + D = E at *
      generalize hLL : qL + D = F at *
      replace hEE := Lib.hid hEE
      replace hLL := Lib.hid hLL
      obtain ⟨y0, y1, y2, y3, y4, y5⟩ := cell6 N3.out
      obtain ⟨f0, f1, f2, f3, f4, f5, f6', f7, f8, f9, f10⟩ := c11 M2.out.k8
      have Y6 : Hid (Below w12.heap.size w12 (w12.alloc (.cells #[.int .i64 qx, .int .i64 qy, .int .i64 qz, .int .i64 E, .int .i64 F, .int .i64 qW] 37))) := Lib.hid (new_block _)
      have NB := Lib.hid (World.news_of_block (heap_alloc_new w12 (.cells #[.int .i64 qx, .int .i64 qy, .int .i64 qz, .int .i64 E, .int .i64 F, .int .i64 qW] 37)))
      have MB := Lib.hid (M2.out.below Y6.out)
      have OB := Lib.hid MB.out.own
      have one : Hid (∀ u ∈ [Value.int .i64 qx, .int .i64 qy, .int .i64 qz, .int .i64 E, .int .i64 F, .int .i64 qW], u.oneCell' = true) := Lib.hid (by simp; exact ⟨rfl, rfl, rfl, rfl, rfl, rfl⟩)
      have kk9 : kk ≤ 6 := by have := hkk.out; omega
      have m1 : Hid (kk + 1 ≤ maxLen) := Lib.hid (by unfold maxLen; omega)
      have m2 : Hid ((kk + 1) * 48 ≤ 140737488355328) := Lib.hid (by omega)
      have zp := M2.out.lt
      have hsz : b8 + 1 ≤ (w12.alloc (.cells #[.int .i64 qx, .int .i64 qy, .int .i64 qz, .int .i64 E, .int .i64 F, .int .i64 qW] 37)).heap.size := by simp; omega
      go_wp2_with (at_builtin; (refine wpList_append_own _ rfl (.tmp 53) (.tmp 55) 31 rfl (b8 + 1) 37 i0 (.agg #[.int .i64 0, .int .i64 0, .int .i64 0, .int .i64 0, .int .i64 0, .int .i64 0]) 6 48 Try.underlying31 hi0 hz0 hz1 hz2 rfl (by decide) _ kk _ rfl OB.out ⟨w12.heap.size, 0, none⟩ 1 1 _ rfl rfl NB.out one.out m1.out m2.out hsz ?_; intro v' w13 ho hg _; have hg' : (w12.alloc (.cells #[.int .i64 qx, .int .i64 qy, .int .i64 qz, .int .i64 E, .int .i64 F, .int .i64 qW] 37)).grownBy w13 (Value.slice ad kk cc).ownBlock := hg; obtain ⟨ra, rm, rc, rfl, hrm⟩ := own_letter ho; have M13 := Lib.hid (MB.out.grow hg' (vo' := .slice ra rm rc) (no' := rm) (by have e1 := hrm.out; subst e1; exact ho)); obtain ⟨g0, g1, g2, g3, g4, g5, g6, g7, g8, g9, g10⟩ := c11 M13.out.k8; obtain ⟨u0, u1, u2, u3, u4, u5, u6, u7, u8, u9, u10⟩ := f11 M13.out.k8))
      have hrm2 : Hid (rm + j' = nl) := Lib.hid (by rw [hrm.out]; have := hkk.out; omega)
      have ec : Hid (cellsP (((L.drop j').map (sh D)).reverse) = cellsP (((L.drop (j' + 1)).map (sh D)).reverse) ++ [.int .i64 qx, .int .i64 qy, .int .i64 qz, .int .i64 E, .int .i64 F, .int .i64 qW]) := Lib.hid (by rw [sh_drop L D j' hlt, hq.out, cellsP_snoc, ← hEE.out, ← hLL.out]; rfl)
      have M14 := Lib.hid (by have h7 := M13.out.store8 ⟨_, _, _, _, _, _, _, _, _, _, fun _ => rfl⟩ (.slice ra rm rc); rw [← ec.out] at h7; exact h7)
      clear ho hg hg' Y6 NB MB OB one m1 m2 hsz zp y0 y1 y2 y3 y4 y5 f0 f1 f2 f3 f4 f5 f6' f7 f8 f9 f10 g0 g1 g2 g3 g4 g5 g6 g7 g8 g9 g10 u0 u1 u2 u3 u4 u5 u6 u7 u8 u9 u10 M13 M2 N3
      go_wp2_with fail
      go_roundw
      case rel => exact ⟨j', ra, rm, rc, by go_num, by omega, hrm2, M14⟩
      case measure => simp [intOf]
    · obtain rfl : j = 0 := by omega
      rw [List.drop_zero] at M
      have hk2 : kk = ((L.map (sh D)).reverse).length := by rw [List.length_reverse, List.length_map, ← hnl.out]; have := hkk.out; omega
      obtain ⟨gq, cq, hsl, pq, hle, hmx⟩ := own_slice (B := b8 + 1) (w := wr) (v := .slice ad kk cc) (l := (L.map (sh D)).reverse) (by have := M.out.own; rw [hk2] at this; unfold OwnP; rw [hk2]; exact this) (by rw [← hk2]; have := hkk.out; omega)
      obtain ⟨rfl, rfl⟩ : ad = some ⟨gq, 0, none⟩ ∧ cc = cq := by injection hsl with h1 h2 h3; exact ⟨h1, h3⟩
      have hcc : kk ≤ cc := by rw [hk2]; exact hle
      have hll : ((L.map (sh D)).reverse).length = L.length := by simp
      have A1 := Lib.hid (at_of R.out M.out.tv PH.out.s n1 (by omega) cp0 (by omega) M.out.pr hnl.out (by rw [hnl.out]; exact le) c1 c2 x y z S.out)
      have A2 := Lib.hid fun (w' : World) (h' : Below wr.heap.size wr w') => at_of R.out (M.out.tv.below h') (sh_all PH.out D0 (by omega)) (by rw [hll]; exact n1) (by rw [hll]; omega) cp0 (by omega : cp ≤ 2000) (pq.below h') hk2 hcc c1 c2 x y z S.out
      rw [mf_shift s lo hi cp x y z x y z L D n1] at A2
      have bd : Hid (_) := Lib.hid (best_bd R.out S.out M.out.tv PH.out.s n1 (by omega) cp0 (by omega : cp ≤ 2000))
      change Hid (0 ≤ (mf s lo hi cp x y z x y z L).2 ∧ (mf s lo hi cp x y z x y z L).2 ≤ 12800000 ∧ -1125899906842624 ≤ (mf s lo hi cp x y z x y z L).1 ∧ (mf s lo hi cp x y z x y z L).1 ≤ 1125899906842624) at bd
      generalize mf s lo hi cp x y z x y z L = res at *
      obtain ⟨t, v⟩ := res
      dsimp only at A1 A2 bd
      obtain ⟨v0, v9, t0, t9⟩ := bd.out
      clear bd hll hle hmx hsl
      replace hk2 := Lib.hid hk2
      obtain ⟨f0, f1, f2, f3, f4, f5, f6', f7, f8, f9, f10⟩ := c11 M.out.k6
      obtain ⟨y0, y1, y2⟩ := cell3 M.out.k7
      go_wp2_with fail
      refine A1.out.mono ?_
      rintro e0 w9 ⟨rfl, hb9⟩
      clear f0 f1 f2 f3 f4 f5 f6' f7 f8 f9 f10 y0 y1 y2 A1
      replace M := Lib.hid (M.out.below hb9)
      replace A2 := Lib.hid (A2.out w9 hb9)
      clear hb9
      obtain ⟨f0, f1, f2, f3, f4, f5, f6', f7, f8, f9, f10⟩ := c11 M.out.k8
      obtain ⟨y0, y1, y2⟩ := cell3 M.out.k7
      go_wp2_with fail
      refine A2.out.mono ?_
      rintro e0 w10 ⟨rfl, hb9⟩
      clear f0 f1 f2 f3 f4 f5 f6' f7 f8 f9 f10 y0 y1 y2 A2
      have BW := Lib.hid (M.out.below hb9).bel
      clear hb9 M pq
      have hT : IntKind.i64.wrap (t + D) = t + D := IntWalk.i64_in _ (by omega)
      go_wp2_with (go_at_call 19; refine (awake_any _).mono ?_; rintro e0 w15 ⟨rfl, hc⟩; replace BW := Lib.hid (Buf.then_ BW.out hc); clear hc)
      go_ret
      exact ⟨rfl, BW.out⟩
end Mis
namespace Laws
theorem misfitShift_walk (a0 : Option Addr) (len0 cap0 : Nat) (z0 : List Int) (a1 : Int) (w : World) (w0 : Buf.IsRow .i64 w a0 len0 cap0 z0) (w1 : (Lit.int .i64 a1).wf = true) :
    Calls Try.prog 4 #[.slice a0 len0 cap0, .int .i64 a1] w fun e w' => e = .returned (.bool true) ∧ Below w.heap.size w w' := Mis.misfitShift_any a0 len0 cap0 z0 a1 w w0
end Laws
end Go.Proofs.Ythjanffepglcfaa
