/- The walk of MisfitZero. -/
import Derived.Test.YthjanffepglcfaaMisP
import Derived.Test.YthjanffepglcfaaMisR
import Derived.Test.YthjanffepglcfaaKeep
import Derived.Test.YthjanffepglcfaaBoundD
import Derived.Test.YthjanffepglcfaaInv
set_option linter.unusedVariables false
set_option linter.unusedSimpArgs false
namespace Go.Proofs.Ythjanffepglcfaa
open Go.RowKit
namespace Mis
set_option maxHeartbeats 16000000 in
set_option maxRecDepth 100000 in
theorem misfitZero_any (a0 : Option Addr) (len0 cap0 : Nat) (z0 : List Int) (w : World) (w0 : Buf.IsRow .i64 w a0 len0 cap0 z0) :
    Calls Try.prog 6 #[.slice a0 len0 cap0] w fun e w' => e = .returned (.bool true) ∧ Below w.heap.size w w' := by
  go_enter Try.func6, Try.ntmps6
  go_wp2_with fail
  refine (Src.new_any a0 len0 cap0 z0 w w0).mono ?_
  rintro e0 wA ⟨rfl, m, hd⟩
  have L0 := Lib.hid (Src.Left.refl hd)
  have sA : w.heap.size < wA.heap.size := hd.lt
  clear hd w0
  go_wp2_with fail
  refine (problem_any 20 5 (by decide) (by decide) (by decide) (by decide) L0.out.di).mono ?_
  rintro e0 w2 ⟨⟨a1, a2, a3, d1, d2, d3, s, b1, b2, n, c1, c2, lo, hi, gp, cpp, L, cp, nl, rfl, hnl, P⟩, hl⟩
  have R := Lib.hid (P.rg (by decide))
  have cp0 := P.c0
  have cp9 := P.c9
  have n1 := P.n1
  have n9 := P.n9
  have tv := Lib.hid P.tv
  have pr := Lib.hid P.pr
  have PH := Lib.hid P.ph
  have m1 := P.m1
  have m2 := P.m2
  have m3 := P.gB
  have le := P.le
  have hx := P.mx
  have e1 := P.tv.tv.e1
  have e2 := P.tv.tv.e2
  have e3 := P.pr.1
  replace hnl := Lib.hid hnl
  have s2 : wA.heap.size ≤ w2.heap.size := hl.far.size
  replace L0 := Lib.hid (L0.out.trans hl)
  clear hl P
  obtain ⟨w3, hw3⟩ : ∃ w3, w3 = w2.alloc (.cells #[.int .i64 a1, .int .i64 a2, .int .i64 a3, .int .i64 d1, .int .i64 d2, .int .i64 d3, .int .i64 s, .slice (some ⟨b1, 0, none⟩) n c1, .slice (some ⟨b2, 0, none⟩) n c2, .slice (some ⟨gp, 0, none⟩) nl cpp, .int .i64 cp] 33) := ⟨_, rfl⟩
  have Y1 : Hid (Below w2.heap.size w2 w3) := Lib.hid (by rw [hw3]; exact new_block _)
  have K4 := Lib.hid (show w3.heap[w2.heap.size]? = some (.cells #[.int .i64 a1, .int .i64 a2, .int .i64 a3, .int .i64 d1, .int .i64 d2, .int .i64 d3, .int .i64 s, .slice (some ⟨b1, 0, none⟩) n c1, .slice (some ⟨b2, 0, none⟩) n c2, .slice (some ⟨gp, 0, none⟩) nl cpp, .int .i64 cp] 33 (0, 0)) by rw [hw3]; exact heap_alloc_new w2 _)
  have sb4 : w2.heap.size < w3.heap.size := by rw [hw3]; simp
  go_upto_region 3 with fail
  rw [← hw3]
  clear hw3
  obtain ⟨b4, hb4⟩ : ∃ b4, b4 = w2.heap.size := ⟨_, rfl⟩
  rw [← hb4] at K4 sb4 ⊢
  have hb4l : w2.heap.size ≤ b4 := by omega
  have hb4g : b4 ≤ w2.heap.size := by omega
  clear hb4
  replace tv := Lib.hid (tv.out.below Y1.out)
  replace pr := Lib.hid (pr.out.below Y1.out)
  replace L0 := Lib.hid (L0.out.below Y1.out)
  clear Y1
  have PT := Lib.hid (Src.point_any a1 a2 a3 d1 d2 d3 R.out.bv L0.out.di)
  obtain ⟨f0, f1, f2, f3, f4, f5, f6, f7, f8, f9, f10⟩ := c11 K4.out
  go_wp2_with fail
  refine PT.out.mono ?_
  rintro e0 w4 ⟨⟨x, y, z, rfl, x0, x1, y0, y1, z1, z2⟩, hl⟩
  have S := Lib.hid (Sub.pt x0 x1 y0 y1 z1 z2)
  have s4 : w3.heap.size ≤ w4.heap.size := hl.far.size
  replace K4 := Lib.hid (hl.blk K4.out (by omega))
  replace tv := Lib.hid (Bound.Wide.mk (tv.out.tv.left hl (by omega) (by omega)) tv.out.re)
  replace pr := Lib.hid (pr.out.kept (hl.far.block gp pr.out.1 (by simp; omega)) hl.far.size)
  replace L0 := Lib.hid (L0.out.trans hl)
  clear hl PT f0 f1 f2 f3 f4 f5 f6 f7 f8 f9 f10 x0 x1 y0 y1 z1 z2
  obtain ⟨w5, hw5⟩ : ∃ w5, w5 = w4.alloc (.cells #[.int .i64 x, .int .i64 y, .int .i64 z] 26) := ⟨_, rfl⟩
  have Y1 : Hid (Below w4.heap.size w4 w5) := Lib.hid (by rw [hw5]; exact new_block _)
  have K5 := Lib.hid (show w5.heap[w4.heap.size]? = some (.cells #[.int .i64 x, .int .i64 y, .int .i64 z] 26 (0, 0)) by rw [hw5]; exact heap_alloc_new w4 _)
  have sb5 : w4.heap.size < w5.heap.size := by rw [hw5]; simp
  go_upto_region 4 with fail
  rw [← hw5]
  clear hw5
  obtain ⟨b5, hb5⟩ : ∃ b5, b5 = w4.heap.size := ⟨_, rfl⟩
  rw [← hb5] at K5 sb5 ⊢
  have hb5l : w4.heap.size ≤ b5 := by omega
  have hb5g : b5 ≤ w4.heap.size := by omega
  clear hb5
  replace K4 := Lib.hid (hb Y1.out K4.out)
  replace tv := Lib.hid (tv.out.below Y1.out)
  replace pr := Lib.hid (pr.out.below Y1.out)
  replace L0 := Lib.hid (L0.out.below Y1.out)
  clear Y1
  have hnl' : nl ≤ cpp := by rw [hnl.out]; exact le
  have nl9 : nl ≤ 5 := by rw [hnl.out]; exact n9
  have nl1 : 1 ≤ nl := by rw [hnl.out]; exact n1
  have W0 := Lib.hid L0.out.di.bel
  clear L0 sb4 hb4l hb4g sb5 hb5l hb5g s2 s4 sA e1 e2 e3 m1 m2 m3
  have PK := Lib.hid (pk_of (s := s) (b1 := b1) (b2 := b2) (n := n) (lo := lo) (hi := hi) c1 c2 R.out PH.out.s n1 (by omega) cp0 (by omega : cp ≤ 2000))
  have BVX := Lib.hid (S.out.bv R.out.bv)
  have WIX := Lib.hid S.out.wi
  have CS := cs_of R.out S.out tv.out PH.out.s n1 (by omega) cp0 (by omega : cp ≤ 2000)
  have ZW := zw_of R.out S.out tv.out PH.out.s cp0
  have bd := best_bd R.out S.out tv.out PH.out.s n1 (by omega) cp0 (by omega : cp ≤ 2000)
  have HZ := fun (k : Nat) (q : Ph) (h : L[k]? = some q) (w : World) (hw : Bound.Wide w s b1 b2 n lo hi) => zone_of (c1 := c1) (c2 := c2) R.out S.out hw (PH.out.s k q h)
  obtain ⟨zf, hzf⟩ : ∃ zf, zf = zfun s lo hi x y z x y z := ⟨_, rfl⟩
  rw [← hzf] at CS ZW bd HZ
  clear hzf
  replace CS := Lib.hid CS
  replace HZ := Lib.hid HZ
  rw [← hnl.out] at ZW bd
  have W1 : ∀ k, k < nl → 1 ≤ wt L k := fun k hk => by
    have e := List.getElem?_eq_getElem (show k < L.length by rw [← hnl.out]; exact hk)
    rw [wt_at e]
    exact (PH.out k _ e).w1
  have ZB := Lib.hid CS.out.zns
  have IB := best_is cp (wt L) (zn (L.map zf)) nl nl1
  have ZI := zero_iff IB ZW nl1 cp0 W1 (by omega) (by omega)
  have is := IB.is
  have A1 := Lib.hid fun (w' : World) (h1 : Bound.Wide w' s b1 b2 n lo hi) (h2 : PhR w' gp L) => at_any PK.out h1 h2 hnl.out hnl' x y z zf BVX.out WIX.out HZ.out CS.out
  have A2 := Lib.hid fun (w' : World) (h1 : Bound.Wide w' s b1 b2 n lo hi) (h2 : PhR w' gp L) => zones_any PK.out h1 h2 hnl.out hnl' x y z x y z zf BVX.out WIX.out HZ.out
  have A3 := Lib.hid fun (w' : World) (h1 : Bound.Wide w' s b1 b2 n lo hi) (h2 : PhR w' gp L) t t0 t9 => residuals_any PK.out h1 h2 hnl.out hnl' x y z zf BVX.out WIX.out HZ.out CS.out t t0 t9
  clear ZW IB W1
  obtain ⟨bd0, bd9, bt0, bt9⟩ := bd
  generalize (best cp (wt L) (zn (L.map zf)) nl).2 = v at *
  generalize (best cp (wt L) (zn (L.map zf)) nl).1 = t at *
  replace is := Lib.hid is
  obtain ⟨f0, f1, f2, f3, f4, f5, f6, f7, f8, f9, f10⟩ := c11 K4.out
  obtain ⟨y0, y1, y2⟩ := cell3 K5.out
  go_wp2_with fail
  with_reducible refine (A1.out _ tv.out pr.out).mono ?_
  rintro e0 w0 ⟨rfl, hc⟩
  replace K4 := Lib.hid (hb hc K4.out)
  replace K5 := Lib.hid (hb hc K5.out)
  replace tv := Lib.hid (tv.out.below hc)
  replace pr := Lib.hid (pr.out.below hc)
  replace W0 := Lib.hid (Buf.then_ W0.out hc)
  clear hc A1
  clear f0 f1 f2 f3 f4 f5 f6 f7 f8 f9 f10 y0 y1 y2
  have ZC := Lib.hid fun wx (hx : Below w0.heap.size w0 wx) => A2.out wx (tv.out.below hx) (pr.out.below hx)
  clear A2
  have hw0 : Below w0.heap.size w0 w0.drew := (Below.refl _ _).drew
  go_wp2_with fail
  refine wp_region_noPanic ?_
  refine wp_region_any (by kernel_rfl) ?_
  refine Inv.wpAny_inv (fun k => false) [33, 34, 35, 36, 32, 37, 38, 9, 10] (fun w' => Below w0.heap.size w0 w') (fun _ w1 w2 => Below w1.heap.size w1 w2) (fun k => ([fun v_ w_ => v_ = .agg #[.int .i64 a1, .int .i64 a2, .int .i64 a3, .int .i64 d1, .int .i64 d2, .int .i64 d3, .int .i64 s, .slice (some ⟨b1, 0, none⟩) n c1, .slice (some ⟨b2, 0, none⟩) n c2, .slice (some ⟨gp, 0, none⟩) nl cpp, .int .i64 cp], fun v_ w_ => v_ = .agg #[.int .i64 x, .int .i64 y, .int .i64 z], fun v_ w_ => v_ = .agg #[.int .i64 x, .int .i64 y, .int .i64 z, .int .i64 x, .int .i64 y, .int .i64 z], fun v_ w_ => ∃ v_z, v_ = .tuple #[v_z, .int .i64 0] ∧ OwnZ w_ w.heap.size v_z (L.map zf), fun v_ w_ => ∃ v_z, v_ = .tuple #[v_z, .int .i64 0] ∧ OwnZ w_ w.heap.size v_z (L.map zf), fun v_ w_ => OwnZ w_ w.heap.size v_ (L.map zf), fun v_ w_ => v_ = .int .i64 0, fun v_ w_ => OwnZ w_ w.heap.size v_ (L.map zf), fun v_ w_ => v_ = .int .i64 0] : List (Value → World → Prop)).getD k (fun _ _ => True)) _ (fun σ => by simp only [Inv.putAll, List.foldl_cons, List.foldl_nil, Act.put, List.setIfInBounds_toArray, List.set_cons_zero, List.set_cons_succ]; rfl) (by kernel_rfl) (by kernel_rfl) ?_ hw0 ?_ ?_ 0 #[true, true, true, true, true, true, true, true, true] (by kernel_rfl) (by kernel_rfl) ?_
  · intro j k v w1 w2 hjk hv hr
    rcases k with _ | k
    · exact hv
    rcases k with _ | k
    · exact hv
    rcases k with _ | k
    · exact hv
    rcases k with _ | k
    · exact (by obtain ⟨v, h1, h2⟩ := hv; exact ⟨v, h1, own_below h2 hr⟩)
    rcases k with _ | k
    · exact (by obtain ⟨v, h1, h2⟩ := hv; exact ⟨v, h1, own_below h2 hr⟩)
    rcases k with _ | k
    · exact (own_below hv hr)
    rcases k with _ | k
    · exact hv
    rcases k with _ | k
    · exact (own_below hv hr)
    rcases k with _ | k
    · exact hv
    · exact hv
  · intro k t hl hd
    rcases k with _ | k
    · exact absurd hl (by decide +kernel)
    rcases k with _ | k
    · exact absurd hl (by decide +kernel)
    rcases k with _ | k
    · exact absurd hl (by decide +kernel)
    rcases k with _ | k
    · exact absurd hl (by decide +kernel)
    rcases k with _ | k
    · exact absurd hl (by decide +kernel)
    rcases k with _ | k
    · exact absurd hl (by decide +kernel)
    rcases k with _ | k
    · exact absurd hl (by decide +kernel)
    rcases k with _ | k
    · exact absurd hl (by decide +kernel)
    rcases k with _ | k
    · exact absurd hl (by decide +kernel)
    · simp at hd
  · show Inv.Steps _ _ _ _ _ _ _ _ [0, 1, 2, 3, 4, 5, 6, 7, 8]
    refine Inv.Steps.go (by decide) (by rfl) (fun σ wx hw hd K hK => ?_) ?_
    · simp only [List.getElem_toArray, List.getElem_cons_zero, List.getElem_cons_succ, Act.put, List.setIfInBounds_toArray, List.set_cons_zero, List.set_cons_succ] at hK ⊢
      obtain ⟨f0, f1, f2, f3, f4, f5, f6, f7, f8, f9, f10⟩ := c11 (hb hw K4.out)
      go_simp
      exact hK.out _ _ hw (Below.refl _ _) (rfl)
    refine Inv.Steps.go (by decide) (by rfl) (fun σ wx hw hd K hK => ?_) ?_
    · simp only [List.getElem_toArray, List.getElem_cons_zero, List.getElem_cons_succ, Act.put, List.setIfInBounds_toArray, List.set_cons_zero, List.set_cons_succ] at hK ⊢
      obtain ⟨f0, f1, f2⟩ := cell3 (hb hw K5.out)
      go_simp
      exact hK.out _ _ hw (Below.refl _ _) (rfl)
    refine Inv.Steps.go (by decide) (by rfl) (fun σ wx hw hd K hK => ?_) ?_
    · obtain e34 : (σ 34) = .agg #[.int .i64 x, .int .i64 y, .int .i64 z] := hd 1 (some 34) (by kernel_rfl) (by rfl)
      simp only [List.getElem_toArray, List.getElem_cons_zero, List.getElem_cons_succ, Act.put, List.setIfInBounds_toArray, List.set_cons_zero, List.set_cons_succ, e34] at hK ⊢
      go_simp
      go_at_call 23
      refine (Bound.one_any x y z wx).mono ?_
      rintro e w1 ⟨rfl, hb1⟩
      dsimp only
      exact hK.out _ _ (Buf.then_ hw hb1) hb1 (rfl)
    refine Inv.Steps.go (by decide) (by rfl) (fun σ wx hw hd K hK => ?_) ?_
    · obtain e33 : (σ 33) = .agg #[.int .i64 a1, .int .i64 a2, .int .i64 a3, .int .i64 d1, .int .i64 d2, .int .i64 d3, .int .i64 s, .slice (some ⟨b1, 0, none⟩) n c1, .slice (some ⟨b2, 0, none⟩) n c2, .slice (some ⟨gp, 0, none⟩) nl cpp, .int .i64 cp] := hd 0 (some 33) (by kernel_rfl) (by rfl)
      obtain e35 : (σ 35) = .agg #[.int .i64 x, .int .i64 y, .int .i64 z, .int .i64 x, .int .i64 y, .int .i64 z] := hd 2 (some 35) (by kernel_rfl) (by rfl)
      simp only [List.getElem_toArray, List.getElem_cons_zero, List.getElem_cons_succ, Act.put, List.setIfInBounds_toArray, List.set_cons_zero, List.set_cons_succ, e33, e35] at hK ⊢
      go_simp
      go_at_call 25
      refine (ZC.out wx hw).mono ?_
      rintro e w1 ⟨⟨va, rfl, ho⟩, hb1⟩
      dsimp only
      exact hK.out _ _ (Buf.then_ hw hb1) hb1 (⟨va, rfl, own_mono ho (Nat.le_trans W0.out.size hw.size)⟩)
    refine Inv.Steps.go (by decide) (by rfl) (fun σ wx hw hd K hK => ?_) ?_
    · obtain ⟨va, e36, oa⟩ : ∃ v_z, (σ 36) = .tuple #[v_z, .int .i64 0] ∧ OwnZ wx w.heap.size v_z (L.map zf) := hd 3 (some 36) (by kernel_rfl) (by rfl)
      simp only [List.getElem_toArray, List.getElem_cons_zero, List.getElem_cons_succ, Act.put, List.setIfInBounds_toArray, List.set_cons_zero, List.set_cons_succ, e36] at hK ⊢
      go_simp
      exact hK.out _ _ hw (Below.refl _ _) (⟨va, rfl, oa⟩)
    refine Inv.Steps.go (by decide) (by rfl) (fun σ wx hw hd K hK => ?_) ?_
    · obtain ⟨vb, e32, ob⟩ : ∃ v_z, (σ 32) = .tuple #[v_z, .int .i64 0] ∧ OwnZ wx w.heap.size v_z (L.map zf) := hd 4 (some 32) (by kernel_rfl) (by rfl)
      simp only [List.getElem_toArray, List.getElem_cons_zero, List.getElem_cons_succ, Act.put, List.setIfInBounds_toArray, List.set_cons_zero, List.set_cons_succ, e32] at hK ⊢
      go_simp
      exact hK.out _ _ hw (Below.refl _ _) (ob)
    refine Inv.Steps.go (by decide) (by rfl) (fun σ wx hw hd K hK => ?_) ?_
    · obtain ⟨vb, e32, ob⟩ : ∃ v_z, (σ 32) = .tuple #[v_z, .int .i64 0] ∧ OwnZ wx w.heap.size v_z (L.map zf) := hd 4 (some 32) (by kernel_rfl) (by rfl)
      simp only [List.getElem_toArray, List.getElem_cons_zero, List.getElem_cons_succ, Act.put, List.setIfInBounds_toArray, List.set_cons_zero, List.set_cons_succ, e32] at hK ⊢
      go_simp
      exact hK.out _ _ hw (Below.refl _ _) (rfl)
    refine Inv.Steps.go (by decide) (by rfl) (fun σ wx hw hd K hK => ?_) ?_
    · obtain oc : OwnZ wx w.heap.size (σ 37) (L.map zf) := hd 5 (some 37) (by kernel_rfl) (by rfl)
      simp only [List.getElem_toArray, List.getElem_cons_zero, List.getElem_cons_succ, Act.put, List.setIfInBounds_toArray, List.set_cons_zero, List.set_cons_succ] at hK ⊢
      go_simp
      exact hK.out _ _ hw (Below.refl _ _) (oc)
    refine Inv.Steps.go (by decide) (by rfl) (fun σ wx hw hd K hK => ?_) ?_
    · obtain e38 : (σ 38) = .int .i64 0 := hd 6 (some 38) (by kernel_rfl) (by rfl)
      simp only [List.getElem_toArray, List.getElem_cons_zero, List.getElem_cons_succ, Act.put, List.setIfInBounds_toArray, List.set_cons_zero, List.set_cons_succ, e38] at hK ⊢
      go_simp
      exact hK.out _ _ hw (Below.refl _ _) (rfl)
    exact Inv.Steps.nil
  · intro σ wx hw hd
    obtain od : OwnZ wx w.heap.size (σ 9) (L.map zf) := hd 7 (some 9) (by rfl) (by rfl)
    obtain e10 : (σ 10) = .int .i64 0 := hd 8 (some 10) (by rfl) (by rfl)
    simp only [e10]
    generalize hvv : σ 9 = vz at *
    refine Inv.done (by kernel_rfl) (NoPanic.normal ?_)
    have O7 := Lib.hid od
    clear hd hvv
    obtain ⟨gz, cz, rfl, zr, h1, h2, h3⟩ := znR_of_own O7.out (by rw [List.length_map, ← hnl.out]; omega)
    rw [show (L.map zf).length = nl by rw [List.length_map, ← hnl.out]] at *
    replace zr := Lib.hid zr
    have hcz : (nl : Int) ≤ cz := by omega
    clear h1 h2 h3 od O7 ZC
    have hc := hw
    replace K4 := Lib.hid (hb hc K4.out)
    replace K5 := Lib.hid (hb hc K5.out)
    replace tv := Lib.hid (tv.out.below hc)
    replace pr := Lib.hid (pr.out.below hc)
    have W7 := Lib.hid (Buf.then_ W0.out hc)
    clear hc hw hw0
    have A4 := Lib.hid (A3.out wx tv.out pr.out t (by omega) (by omega))
    clear A3
    obtain ⟨f0, f1, f2, f3, f4, f5, f6, f7, f8, f9, f10⟩ := c11 K4.out
    obtain ⟨y0, y1, y2⟩ := cell3 K5.out
    go_wp2_with fail
    with_reducible refine (A4.out).mono ?_
    rintro e0 w8 ⟨⟨bm, cm, rfl, RW, hbm⟩, hc⟩
    clear f0 f1 f2 f3 f4 f5 f6 f7 f8 f9 f10 y0 y1 y2
    replace RW := Lib.hid RW
    replace K4 := Lib.hid (hb hc K4.out)
    replace K5 := Lib.hid (hb hc K5.out)
    replace pr := Lib.hid (pr.out.below hc)
    replace zr := Lib.hid (zr.out.below hc)
    replace W7 := Lib.hid (Buf.then_ W7.out hc)
    clear hc A4 tv K5 cm hbm
    obtain ⟨f0, f1, f2, f3, f4, f5, f6, f7, f8, f9, f10⟩ := c11 K4.out
    go_wp2_with fail
    clear f0 f1 f2 f3 f4 f5 f6 f7 f8 f9 f10
    go_loopw [13, 14, 15, 73] (fun u13 u14 u15 i wr => ∃ k : Nat, k ≤ nl ∧ i = .int .i64 k ∧ u13 = .int .i64 (frN (zn (L.map zf)) k) ∧ u14 = .int .i64 (toN (zn (L.map zf)) k) ∧ u15 = .int .i64 (ck cp (wt L) (zn (L.map zf)) t k) ∧ Hid (wr.heap[b4]? = some (.cells #[.int .i64 a1, .int .i64 a2, .int .i64 a3, .int .i64 d1, .int .i64 d2, .int .i64 d3, .int .i64 s, .slice (some ⟨b1, 0, none⟩) n c1, .slice (some ⟨b2, 0, none⟩) n c2, .slice (some ⟨gp, 0, none⟩) nl cpp, .int .i64 cp] 33 (0, 0))) ∧ Hid (PhR wr gp L) ∧ Hid (ZnR wr gz (L.map zf)) ∧ Hid (Rw wr bm nl nl (fun j => res (zn (L.map zf) j) t)) ∧ Hid (Below w.heap.size w wr)) (fun _ _ _ i _ => nl - (intOf i).toNat)
    case atStart => exact ⟨0, Nat.zero_le _, rfl, rfl, rfl, rfl, K4, pr, zr, RW, W7⟩
    case round =>
      clear K4 pr zr RW W7
      obtain ⟨k, hk, rfl, rfl, rfl, rfl, K4, pr, zr, RW, W7⟩ := hrel
      by_cases hlt : k < nl
      · have hlt' : (k : Int) < nl := by omega
        have hlt2 : (k : Int) < cz := by omega
        have hlt3 : (k : Int) < cpp := by omega
        obtain ⟨q, hq⟩ : ∃ q, L[k]? = some q := ⟨L[k]'(by rw [← hnl.out]; exact hlt), List.getElem?_eq_getElem _⟩
        obtain ⟨⟨z1, z2⟩, hzz⟩ : ∃ q, (L.map zf)[k]? = some q := ⟨(L.map zf)[k]'(by rw [List.length_map, ← hnl.out]; exact hlt), List.getElem?_eq_getElem _⟩
        obtain ⟨y0, y1, y2, y3⟩ := CS.out.z k _ hzz
        obtain ⟨u0, u1⟩ := CS.out.w k _ hq
        dsimp only at y0 y1 y2 y3
        have hfr : Hid (frN (zn (L.map zf)) (k + 1) = max (frN (zn (L.map zf)) k) z1) := Lib.hid (by conv => lhs; unfold frN; rw [zn_at hzz])
        have hto : Hid (toN (zn (L.map zf)) (k + 1) = min (toN (zn (L.map zf)) k) z2) := Lib.hid (by conv => lhs; unfold toN; rw [zn_at hzz])
        have hck : Hid (ck cp (wt L) (zn (L.map zf)) t (k + 1) = ck cp (wt L) (zn (L.map zf)) t k + q.W * min (res (z1, z2) t) cp) := Lib.hid (by conv => lhs; unfold ck; rw [wt_at hq, zn_at hzz])
        have b13 := frN_bd (zn (L.map zf)) k (fun i hi => by have := ZB.out i (by rw [← hnl.out]; omega); omega)
        have b14 := toN_bd (zn (L.map zf)) k (fun i hi => by have := ZB.out i (by rw [← hnl.out]; omega); omega)
        have bd := ck_bd cp (wt L) (zn (L.map zf)) t (by omega) (by omega) k (fun i hi => CS.out.wts i (by rw [← hnl.out]; omega))
        have r0 := res0 (z1, z2) t
        have r9 : res (z1, z2) t ≤ 4611686018427387904 := by unfold res; dsimp only; omega
        have RC : Hid (∀ w', Below wr.heap.size wr w' → w'.cell? ⟨bm, k, none⟩ = some (.int .i64 (res (z1, z2) t))) := Lib.hid fun w' h' => by
          have := (RW.out.below h').cell hlt
          rw [zn_at hzz] at this
          exact this
        generalize frN (zn (L.map zf)) k = fr at hfr b13 ⊢
        generalize toN (zn (L.map zf)) k = tz at hto b14 ⊢
        generalize ck cp (wt L) (zn (L.map zf)) t k = ck0 at hck bd ⊢
        have P5 : Hid (∀ w', Below wr.heap.size wr w' → w'.cell? ⟨gp, k * 6 + 5, none⟩ = some (.int .i64 q.W)) := Lib.hid fun w' h' => ((pr.out.below h').2 k _ hq).2.2.2.2.2
        have Z2 : Hid (∀ w', Below wr.heap.size wr w' → w'.cell? ⟨gz, k * 2, none⟩ = some (.int .i64 z1) ∧ w'.cell? ⟨gz, k * 2 + 1, none⟩ = some (.int .i64 z2)) := Lib.hid fun w' h' => (zr.out.below h').2 k _ hzz
        have E11 := Lib.hid fun w' (h' : Below wr.heap.size wr w') => c11 (hb h' K4.out)
        generalize res (z1, z2) t = rr at *
        generalize q.W = qw at hck u0 u1 P5
        obtain ⟨mm, hmm⟩ : ∃ mm, mm = min cp rr := ⟨_, rfl⟩
        have mm0 : 0 ≤ mm := by omega
        have mm9 : mm ≤ 2000 := by omega
        have p0 : 0 ≤ qw * mm := Int.mul_nonneg u0 mm0
        have p9 : qw * mm ≤ 100 * 2000 := Int.mul_le_mul u1 mm9 mm0 (by omega)
        have i1 : Hid (IntKind.i64.wrap (qw * mm) = qw * mm) := Lib.hid (IntWalk.i64_in _ (by omega))
        have i2 : Hid (IntKind.i64.wrap (ck0 + qw * mm) = ck0 + qw * mm) := Lib.hid (IntWalk.i64_in _ (by omega))
        rw [show min rr cp = mm by omega] at hck
        replace hmm := Lib.hid hmm
        replace hzz := Lib.hid hzz
        replace hq := Lib.hid hq
        go_wp2_with fail
        refine Buf.region_calm wr (by kernel_rfl) (by kernel_rfl) (Below.refl _ _) ?_
        repeat (go_big_quiet_step ((intro hC; first
          | rfl
          | (simp only [(Z2.out _ hC).1, Result.andThen_ok]; exact ⟨trivial, rfl⟩)
          | (simp only [(Z2.out _ hC).2, Result.andThen_ok]; exact ⟨trivial, rfl⟩))))
        refine wpQuiet_nil ?_
        intro w9 hb9
        go_wp2_with fail
        refine Buf.region_calm w9 (by kernel_rfl) (by kernel_rfl) (Below.refl _ _) ?_
        repeat (go_big_quiet_step ((intro hC; first
          | rfl
          | (simp only [(E11.out _ (Buf.then_ hb9 hC)).2.2.2.2.2.2.2.2.2.1, (E11.out _ (Buf.then_ hb9 hC)).2.2.2.2.2.2.2.2.2.2, Result.andThen_ok]; exact ⟨trivial, rfl⟩)
          | (simp only [P5.out _ (Buf.then_ hb9 hC), Result.andThen_ok]; exact ⟨trivial, rfl⟩)
          | (simp only [RC.out _ (Buf.then_ hb9 hC), Result.andThen_ok]; exact ⟨trivial, rfl⟩))))
        refine wpQuiet_nil ?_
        intro w10 hb10
        have v1 : wrap64 (qw * mm) = qw * mm := IntWalk.wrap64_in _ ⟨by omega, by omega⟩
        have v2 : wrap64 (ck0 + qw * mm) = ck0 + qw * mm := IntWalk.wrap64_in _ ⟨by omega, by omega⟩
        rw [← hmm.out, v1, v2]
        have hb11 := Buf.then_ hb9 hb10
        replace K4 := Lib.hid (hb hb11 K4.out)
        replace pr := Lib.hid (pr.out.below hb11)
        replace zr := Lib.hid (zr.out.below hb11)
        replace RW := Lib.hid (RW.out.below hb11)
        replace W7 := Lib.hid (Buf.then_ W7.out hb11)
        clear v1 v2 hb9 hb10 hb11 E11 P5 Z2 RC i1 i2
        generalize qw * mm = pp at *
        go_wp2_with fail
        go_roundw
        case rel => exact ⟨k + 1, by omega, by go_num, by rw [hfr.out], by rw [hto.out], by rw [hck.out], K4, pr, zr, RW, W7⟩
        case measure => simp [intOf]; omega
      · obtain rfl : k = nl := by omega
        rw [← is.out]
        clear is
        have b13 := frN_bd (zn (L.map zf)) k (fun i hi => by have := ZB.out i (by rw [← hnl.out]; omega); omega)
        have b14 := toN_bd (zn (L.map zf)) k (fun i hi => by have := ZB.out i (by rw [← hnl.out]; omega); omega)
        generalize frN (zn (L.map zf)) k = fr at *
        generalize toN (zn (L.map zf)) k = tz at *
        have BW := W7
        clear W7 K4 pr zr RW
        by_cases h0 : v = 0
        · have h1 := ZI.1 h0
          subst h0
          go_wp2_with (go_at_call 19; refine (awake_any _).mono ?_; rintro e0 w15 ⟨rfl, hc⟩; replace BW := Lib.hid (Buf.then_ BW.out hc); clear hc)
          go_ret
          exact ⟨rfl, BW.out⟩
        · have h1 : ¬ fr ≤ tz := fun h => h0 (ZI.2 h)
          have hv : (v == 0) = false := by rw [beq_eq_false_iff_ne]; exact h0
          go_wp2_with (go_at_call 19; refine (awake_any _).mono ?_; rintro e0 w15 ⟨rfl, hc⟩; replace BW := Lib.hid (Buf.then_ BW.out hc); clear hc)
          go_ret
          exact ⟨rfl, BW.out⟩
end Mis
namespace Laws
theorem misfitZero_walk (a0 : Option Addr) (len0 cap0 : Nat) (z0 : List Int) (w : World) (w0 : Buf.IsRow .i64 w a0 len0 cap0 z0) :
    Calls Try.prog 6 #[.slice a0 len0 cap0] w fun e w' => e = .returned (.bool true) ∧ Below w.heap.size w w' := Mis.misfitZero_any a0 len0 cap0 z0 w w0
end Laws
end Go.Proofs.Ythjanffepglcfaa
