/- The walk of GeometryBoxes. -/
import Derived.Test.YtklgnbimfobgkaaGbG
import Derived.Test.YtklgnbimfobgkaaGeoG
import Derived.Test.YtklgnbimfobgkaaPos
import Derived.Test.YtklgnbimfobgkaaPlaceB
import Derived.Test.YtklgnbimfobgkaaInv
import Derived.Test.YtklgnbimfobgkaaQuiet
import Derived.RegionTactic
import Derived.Laws.StructEq
import Derived.Deep.CutBlock
import Derived.Deep.DeepCutAuto
set_option linter.unusedVariables false
set_option linter.unusedSimpArgs false
namespace Go.Proofs.Ytklgnbimfobgkaa
open Go.RowKit Qt Geo
namespace Laws
structure Ckp (p : Prop) : Prop where
  out : p
theorem row_keep {w w' : World} {a : Option Addr} {len cap : Nat} {zs : List Int} (h : Buf.IsRow .i64 w a len cap zs) (hb : Below w.heap.size w w') : Buf.IsRow .i64 w' a len cap zs := by
  rcases h with h | ⟨x, e, h1, h2, h3, h4, h5⟩
  · exact .inl h
  · exact .inr ⟨x, e, h1, h2, h3, fun i hi => by
      have h := h4 i hi
      exact (hb.cell (Nat.lt_of_not_le fun hh => by unfold World.cell? at h; rw [Array.getElem?_eq_none hh] at h; cases h)).trans h, h5⟩
theorem hop {w w' : World} {b : Nat} {o : Obj} (hb : Below w.heap.size w w') (h : w.heap[b]? = some o) : w'.heap[b]? = some o := by
  rw [hb.block b (Array.getElem?_eq_some_iff.1 h).1]; exact h
theorem box_neq (a b c d e f : Int) (w : World) : (binOp .neq 25 (.agg #[.int .i64 a, .int .i64 b, .int .i64 c, .int .i64 d, .int .i64 e, .int .i64 f]) (.agg #[.int .i64 a, .int .i64 b, .int .i64 c, .int .i64 d, .int .i64 e, .int .i64 f])).run Try.prog w = .ok (.bool false) w := by
  go_simp
theorem pos_neq (a b c : Int) (w : World) : (binOp .neq 23 (.agg #[.int .i64 a, .int .i64 b, .int .i64 c]) (.agg #[.int .i64 a, .int .i64 b, .int .i64 c])).run Try.prog w = .ok (.bool false) w := by
  go_simp
set_option maxHeartbeats 16000000 in
set_option maxRecDepth 100000 in
noncomputable def ck_root : (P_ga : Prop) ×' (Ckp P_ga → ∀ (a0 b0 c0 d0 e0 f0 a1 b1 c1 d1 e1 f1 x2 y2 u2 : Int) (a3 : Option Addr) (len3 cap3 : Nat) (z3 : List Int) (w : World) (w3 : Buf.IsRow .i64 w a3 len3 cap3 z3), Calls Try.prog 3 #[.agg #[.int .i64 a0, .int .i64 b0, .int .i64 c0, .int .i64 d0, .int .i64 e0, .int .i64 f0], .agg #[.int .i64 a1, .int .i64 b1, .int .i64 c1, .int .i64 d1, .int .i64 e1, .int .i64 f1], .agg #[.int .i64 x2, .int .i64 y2, .int .i64 u2], .slice a3 len3 cap3] w fun e w' => e = .returned (.bool true) ∧ Below w.heap.size w w') := by
  apply PSigma.mk
  case snd =>
    intro hck_ga
    intro a0 b0 c0 d0 e0 f0 a1 b1 c1 d1 e1 f1 x2 y2
      u2 a3 len3 cap3 z3 w w3
    have AW := Lib.hid Geo.awake_any
    go_enter Try.func3, Try.ntmps3
    obtain ⟨wb, hwb⟩ : ∃ wz, wz = ((w.alloc (.cells #[.int .i64 a0, .int .i64 b0, .int .i64 c0, .int .i64 d0, .int .i64 e0, .int .i64 f0] 25)).alloc (.cells #[.int .i64 a1, .int .i64 b1, .int .i64 c1, .int .i64 d1, .int .i64 e1, .int .i64 f1] 25)).alloc (.cells #[.int .i64 x2, .int .i64 y2, .int .i64 u2] 23) := ⟨_, rfl⟩
    have BW := Lib.hid (show Below w.heap.size w wb by rw [hwb]; exact Buf.then_ (Buf.then_ (new_block _) (new_block _)) (new_block _))
    have K4 := Lib.hid (show wb.heap[w.heap.size]? = some (.cells #[.int .i64 a0, .int .i64 b0, .int .i64 c0, .int .i64 d0, .int .i64 e0, .int .i64 f0] 25 (0, 0)) by rw [hwb]; exact Geo.blk_alloc (Geo.blk_alloc (Geo.blk_new w _) _) _)
    have K5 := Lib.hid (show wb.heap[w.heap.size + 1]? = some (.cells #[.int .i64 a1, .int .i64 b1, .int .i64 c1, .int .i64 d1, .int .i64 e1, .int .i64 f1] 25 (0, 0)) by rw [hwb]; exact Geo.blk_alloc (Geo.blk_new1 w _ _) _)
    have K6 := Lib.hid (show wb.heap[w.heap.size + 1 + 1]? = some (.cells #[.int .i64 x2, .int .i64 y2, .int .i64 u2] 23 (0, 0)) by rw [hwb]; exact Geo.blk_new2 w _ _ _)
    go_upto_region 1 with fail
    rw [← hwb]
    obtain ⟨m4, hm4⟩ : ∃ m, m = w.heap.size := ⟨_, rfl⟩
    obtain ⟨m5, hm5⟩ : ∃ m, m = w.heap.size + 1 := ⟨_, rfl⟩
    obtain ⟨m6, hm6⟩ : ∃ m, m = w.heap.size + 1 + 1 := ⟨_, rfl⟩
    rw [← hm6] at K6 ⊢
    rw [← hm5] at K5 ⊢
    rw [← hm4] at K4
    have hh4 : ∀ (X : Nat), w.heap.size = X → m4 = X := fun X h => hm4.trans h
    clear hwb
    go_wp2_with fail
    refine (Src.new_any a3 len3 cap3 z3 wb (row_keep w3 BW.out)).mono ?_
    rintro e1 wA ⟨rfl, n3, hd⟩
    obtain ⟨g, hg⟩ : ∃ g, g = wb.heap.size := ⟨_, rfl⟩
    rw [← hg] at hd ⊢
    have l4 := (Array.getElem?_eq_some_iff.1 K4.out).1
    have l5 := (Array.getElem?_eq_some_iff.1 K5.out).1
    have l6 := (Array.getElem?_eq_some_iff.1 K6.out).1
    have N4 : m4 ≠ g := by omega
    have N5 : m5 ≠ g := by omega
    have N6 : m6 ≠ g := by omega
    replace K4 := Lib.hid (hop hd.bel K4.out)
    replace K5 := Lib.hid (hop hd.bel K5.out)
    replace K6 := Lib.hid (hop hd.bel K6.out)
    have L0 := Lib.hid (Src.Left.refl hd)
    clear hd hg l4 l5 l6 hh4 hm5 hm6 w3
    go_wp2_with fail
    refine (Src.box_any 40 30 L0.out.di (by omega) (by omega) (by omega) (by omega)).mono ?_
    rintro e1 w1 ⟨⟨g1, g2, g3, g4, g5, g6, rfl, _, _, _, _, _, _, _, _, _, _⟩, hl⟩
    replace K4 := Lib.hid (hl.blk K4.out N4)
    replace K5 := Lib.hid (hl.blk K5.out N5)
    replace K6 := Lib.hid (hl.blk K6.out N6)
    replace L0 := Lib.hid (Src.Left.refl (L0.out.trans hl).di)
    clear hl
    go_upto_region 3 with fail
    obtain ⟨w2, hw2⟩ : ∃ wz, wz = w1.alloc (.cells #[.int .i64 g1, .int .i64 g2, .int .i64 g3, .int .i64 g4, .int .i64 g5, .int .i64 g6] 25) := ⟨_, rfl⟩
    obtain ⟨m10, hm10⟩ : ∃ bz, bz = w1.heap.size := ⟨_, rfl⟩
    have hb : Below w1.heap.size w1 w2 := by rw [hw2]; exact new_block _
    have K10 := Lib.hid (show w2.heap[m10]? = some (.cells #[.int .i64 g1, .int .i64 g2, .int .i64 g3, .int .i64 g4, .int .i64 g5, .int .i64 g6] 25 (0, 0)) by rw [hw2, hm10]; exact heap_alloc_new w1 _)
    replace K4 := Lib.hid (hop hb K4.out)
    replace K5 := Lib.hid (hop hb K5.out)
    replace K6 := Lib.hid (hop hb K6.out)
    have N10 : m10 ≠ g := by have := L0.out.di.lt; omega
    replace L0 := Lib.hid (Src.Left.refl (L0.out.below hb).di)
    rw [← hw2, ← hm10]
    clear hw2 hm10 hb
    rw [← hm4]
    clear hm4
    have X4 := Lib.hid fun wz (hl : Src.Left wb w2 wz g a3 n3 cap3 z3) => hl.blk K4.out N4
    have X5 := Lib.hid fun wz (hl : Src.Left wb w2 wz g a3 n3 cap3 z3) => hl.blk K5.out N5
    have X10 := Lib.hid fun wz (hl : Src.Left wb w2 wz g a3 n3 cap3 z3) => hl.blk K10.out N10
    have hw0 : Src.Left wb w2 w2.drew g a3 n3 cap3 z3 := (Src.Left.refl L0.out.di).drew
    refine wp_region_noPanic ?_
    refine wp_region_any (by kernel_rfl) ?_
    refine Inv.wpAny_inv (fun k => false) [27, 28, 29, 30, 31, 32, 33, 34, 35] (fun w' => Src.Left wb w2 w' g a3 n3 cap3 z3) (fun _ w1 w2 => w1.grownBy w2 (some g)) (fun k => ([fun v_ w_ => v_ = .agg #[.int .i64 a0, .int .i64 b0, .int .i64 c0, .int .i64 d0, .int .i64 e0, .int .i64 f0], fun v_ w_ => v_ = .agg #[.int .i64 g1, .int .i64 g2, .int .i64 g3, .int .i64 g4, .int .i64 g5, .int .i64 g6], fun v_ w_ => v_ = .pointer (some ⟨g, 0, none⟩), fun v_ w_ => v_ = .agg #[.int .i64 g1, .int .i64 g2, .int .i64 g3, .int .i64 g4, .int .i64 g5, .int .i64 g6], fun v_ w_ => ∃ t1 t2 t3 t4 t5 t6 : Int, v_ = .agg #[.int .i64 t1, .int .i64 t2, .int .i64 t3, .int .i64 t4, .int .i64 t5, .int .i64 t6], fun v_ w_ => v_ = .agg #[.int .i64 a1, .int .i64 b1, .int .i64 c1, .int .i64 d1, .int .i64 e1, .int .i64 f1], fun v_ w_ => ∃ (h : Nat) (t1 t2 t3 t4 t5 t6 : Int), v_ = .slice (some ⟨h, 0, none⟩) 4 4 ∧ h ≠ g ∧ w_.heap[h]? = some (.cells #[.int .i64 a0, .int .i64 b0, .int .i64 c0, .int .i64 d0, .int .i64 e0, .int .i64 f0, .int .i64 g1, .int .i64 g2, .int .i64 g3, .int .i64 g4, .int .i64 g5, .int .i64 g6, .int .i64 t1, .int .i64 t2, .int .i64 t3, .int .i64 t4, .int .i64 t5, .int .i64 t6, .int .i64 a1, .int .i64 b1, .int .i64 c1, .int .i64 d1, .int .i64 e1, .int .i64 f1] 25 (0, 0)), fun v_ w_ => v_ = .int .i64 4, fun v_ w_ => v_ = .int .i64 0] : List (Value → World → Prop)).getD k (fun _ _ => True)) _ (fun σ => by simp only [Inv.putAll, List.foldl_cons, List.foldl_nil, Act.put, List.setIfInBounds_toArray, List.set_cons_zero, List.set_cons_succ]; rfl) (by kernel_rfl) (by kernel_rfl) ?_ hw0 ?_ ?_ 0 #[true, true, true, true, true, true, true, true, true] (by kernel_rfl) (by kernel_rfl) ?_
    · intro j k v w1 w2 hjk hv hr
      rcases k with _ | k
      · exact hv
      rcases k with _ | k
      · exact hv
      rcases k with _ | k
      · exact hv
      rcases k with _ | k
      · exact hv
      rcases k with _ | k
      · exact hv
      rcases k with _ | k
      · exact hv
      rcases k with _ | k
      · exact by obtain ⟨h, y1, y2, y3, y4, y5, y6, h1, h2, h3⟩ := hv; exact ⟨h, y1, y2, y3, y4, y5, y6, h1, h2, (hr.block h (Array.getElem?_eq_some_iff.1 h3).1 (by simpa using h2)).trans h3⟩
      rcases k with _ | k
      · exact hv
      rcases k with _ | k
      · exact hv
      · exact hv
    · intro k t hl hd
      rcases k with _ | k
      · exact absurd hl (by decide +kernel)
      rcases k with _ | k
      · exact absurd hl (by decide +kernel)
      rcases k with _ | k
      · exact absurd hl (by decide +kernel)
      rcases k with _ | k
      · exact absurd hl (by decide +kernel)
      rcases k with _ | k
      · exact absurd hl (by decide +kernel)
      rcases k with _ | k
      · exact absurd hl (by decide +kernel)
      rcases k with _ | k
      · exact absurd hl (by decide +kernel)
      rcases k with _ | k
      · exact absurd hl (by decide +kernel)
      rcases k with _ | k
      · exact absurd hl (by decide +kernel)
      · simp at hd
    · show Inv.Steps _ _ _ _ _ _ _ _ [0, 1, 2, 3, 4, 5, 6, 7, 8]
      refine Inv.Steps.go (by decide) (by rfl) (fun σ wx hw hd K hK => ?_) ?_
      · simp only [List.getElem_toArray, List.getElem_cons_zero, List.getElem_cons_succ, Act.put, List.setIfInBounds_toArray, List.set_cons_zero, List.set_cons_succ] at hK ⊢
        have hx := X4.out _ hw
        refine wp_load_row 25 (.tmp 4) rfl m4 rfl 25 #[.int .i64 a0, .int .i64 b0, .int .i64 c0, .int .i64 d0, .int .i64 e0, .int .i64 f0] (0, 0) _ hx rfl rfl rfl ?_
        simp only [Act.put, List.setIfInBounds_toArray, List.set_cons_zero, List.set_cons_succ]
        exact hK.out _ _ hw (World.grownBy.refl _ _) (rfl)
      refine Inv.Steps.go (by decide) (by rfl) (fun σ wx hw hd K hK => ?_) ?_
      · simp only [List.getElem_toArray, List.getElem_cons_zero, List.getElem_cons_succ, Act.put, List.setIfInBounds_toArray, List.set_cons_zero, List.set_cons_succ] at hK ⊢
        have hx := X10.out _ hw
        refine wp_load_row 25 (.tmp 10) rfl m10 rfl 25 #[.int .i64 g1, .int .i64 g2, .int .i64 g3, .int .i64 g4, .int .i64 g5, .int .i64 g6] (0, 0) _ hx rfl rfl rfl ?_
        simp only [Act.put, List.setIfInBounds_toArray, List.set_cons_zero, List.set_cons_succ]
        exact hK.out _ _ hw (World.grownBy.refl _ _) (rfl)
      refine Inv.Steps.go (by decide) (by rfl) (fun σ wx hw hd K hK => ?_) ?_
      · simp only [List.getElem_toArray, List.getElem_cons_zero, List.getElem_cons_succ, Act.put, List.setIfInBounds_toArray, List.set_cons_zero, List.set_cons_succ] at hK ⊢
        go_simp
        exact hK.out _ _ hw (World.grownBy.refl _ _) (rfl)
      refine Inv.Steps.go (by decide) (by rfl) (fun σ wx hw hd K hK => ?_) ?_
      · simp only [List.getElem_toArray, List.getElem_cons_zero, List.getElem_cons_succ, Act.put, List.setIfInBounds_toArray, List.set_cons_zero, List.set_cons_succ] at hK ⊢
        have hx := X10.out _ hw
        refine wp_load_row 25 (.tmp 10) rfl m10 rfl 25 #[.int .i64 g1, .int .i64 g2, .int .i64 g3, .int .i64 g4, .int .i64 g5, .int .i64 g6] (0, 0) _ hx rfl rfl rfl ?_
        simp only [Act.put, List.setIfInBounds_toArray, List.set_cons_zero, List.set_cons_succ]
        exact hK.out _ _ hw (World.grownBy.refl _ _) (rfl)
      refine Inv.Steps.go (by decide) (by rfl) (fun σ wx hw hd K hK => ?_) ?_
      · obtain e29 : (σ 29) = .pointer (some ⟨g, 0, none⟩) := hd 2 (some 29) (by kernel_rfl) (by rfl)
        obtain e30 : (σ 30) = .agg #[.int .i64 g1, .int .i64 g2, .int .i64 g3, .int .i64 g4, .int .i64 g5, .int .i64 g6] := hd 3 (some 30) (by kernel_rfl) (by rfl)
        simp only [List.getElem_toArray, List.getElem_cons_zero, List.getElem_cons_succ, Act.put, List.setIfInBounds_toArray, List.set_cons_zero, List.set_cons_succ, e29, e30] at hK ⊢
        go_simp
        go_at_call 10
        refine (Src.bent_any _ _ _ _ _ _ hw.di).mono ?_
        rintro e w1 ⟨⟨q1, q2, q3, q4, q5, q6, rfl⟩, hl_⟩
        dsimp only
        exact hK.out _ _ (hw.trans hl_) hl_.far (⟨_, _, _, _, _, _, rfl⟩)
      refine Inv.Steps.go (by decide) (by rfl) (fun σ wx hw hd K hK => ?_) ?_
      · simp only [List.getElem_toArray, List.getElem_cons_zero, List.getElem_cons_succ, Act.put, List.setIfInBounds_toArray, List.set_cons_zero, List.set_cons_succ] at hK ⊢
        have hx := X5.out _ hw
        refine wp_load_row 25 (.tmp 5) rfl m5 rfl 25 #[.int .i64 a1, .int .i64 b1, .int .i64 c1, .int .i64 d1, .int .i64 e1, .int .i64 f1] (0, 0) _ hx rfl rfl rfl ?_
        simp only [Act.put, List.setIfInBounds_toArray, List.set_cons_zero, List.set_cons_succ]
        exact hK.out _ _ hw (World.grownBy.refl _ _) (rfl)
      refine Inv.Steps.go (by decide) (by rfl) (fun σ wx hw hd K hK => ?_) ?_
      · obtain e27 : (σ 27) = .agg #[.int .i64 a0, .int .i64 b0, .int .i64 c0, .int .i64 d0, .int .i64 e0, .int .i64 f0] := hd 0 (some 27) (by kernel_rfl) (by rfl)
        obtain e28 : (σ 28) = .agg #[.int .i64 g1, .int .i64 g2, .int .i64 g3, .int .i64 g4, .int .i64 g5, .int .i64 g6] := hd 1 (some 28) (by kernel_rfl) (by rfl)
        obtain ⟨t1, t2, t3, t4, t5, t6, e31⟩ : ∃ t1 t2 t3 t4 t5 t6 : Int, (σ 31) = .agg #[.int .i64 t1, .int .i64 t2, .int .i64 t3, .int .i64 t4, .int .i64 t5, .int .i64 t6] := hd 4 (some 31) (by kernel_rfl) (by rfl)
        obtain e32 : (σ 32) = .agg #[.int .i64 a1, .int .i64 b1, .int .i64 c1, .int .i64 d1, .int .i64 e1, .int .i64 f1] := hd 5 (some 32) (by kernel_rfl) (by rfl)
        simp only [List.getElem_toArray, List.getElem_cons_zero, List.getElem_cons_succ, Act.put, List.setIfInBounds_toArray, List.set_cons_zero, List.set_cons_succ, e27, e28, e31, e32] at hK ⊢
        have hlt := hw.di.lt
        go_simp
        exact hK.out _ _ (hw.below (new_block _)) (Src.Left.far ((Src.Left.refl hw.di).below (new_block _))) (⟨_, _, _, _, _, _, _, rfl, by omega, heap_alloc_new _ _⟩)
      refine Inv.Steps.go (by decide) (by rfl) (fun σ wx hw hd K hK => ?_) ?_
      · obtain ⟨bP, t1, t2, t3, t4, t5, t6, e33, NP, PE⟩ : ∃ (h : Nat) (t1 t2 t3 t4 t5 t6 : Int), (σ 33) = .slice (some ⟨h, 0, none⟩) 4 4 ∧ h ≠ g ∧ wx.heap[h]? = some (.cells #[.int .i64 a0, .int .i64 b0, .int .i64 c0, .int .i64 d0, .int .i64 e0, .int .i64 f0, .int .i64 g1, .int .i64 g2, .int .i64 g3, .int .i64 g4, .int .i64 g5, .int .i64 g6, .int .i64 t1, .int .i64 t2, .int .i64 t3, .int .i64 t4, .int .i64 t5, .int .i64 t6, .int .i64 a1, .int .i64 b1, .int .i64 c1, .int .i64 d1, .int .i64 e1, .int .i64 f1] 25 (0, 0)) := hd 6 (some 33) (by kernel_rfl) (by rfl)
        simp only [List.getElem_toArray, List.getElem_cons_zero, List.getElem_cons_succ, Act.put, List.setIfInBounds_toArray, List.set_cons_zero, List.set_cons_succ, e33] at hK ⊢
        go_simp
        exact hK.out _ _ hw (World.grownBy.refl _ _) (rfl)
      refine Inv.Steps.go (by decide) (by rfl) (fun σ wx hw hd K hK => ?_) ?_
      · simp only [List.getElem_toArray, List.getElem_cons_zero, List.getElem_cons_succ, Act.put, List.setIfInBounds_toArray, List.set_cons_zero, List.set_cons_succ] at hK ⊢
        go_simp
        exact hK.out _ _ hw (World.grownBy.refl _ _) (rfl)
      exact Inv.Steps.nil
    · intro σ wx hw hd
      obtain ⟨bP, t1, t2, t3, t4, t5, t6, e33, NP, PE⟩ : ∃ (h : Nat) (t1 t2 t3 t4 t5 t6 : Int), (σ 33) = .slice (some ⟨h, 0, none⟩) 4 4 ∧ h ≠ g ∧ wx.heap[h]? = some (.cells #[.int .i64 a0, .int .i64 b0, .int .i64 c0, .int .i64 d0, .int .i64 e0, .int .i64 f0, .int .i64 g1, .int .i64 g2, .int .i64 g3, .int .i64 g4, .int .i64 g5, .int .i64 g6, .int .i64 t1, .int .i64 t2, .int .i64 t3, .int .i64 t4, .int .i64 t5, .int .i64 t6, .int .i64 a1, .int .i64 b1, .int .i64 c1, .int .i64 d1, .int .i64 e1, .int .i64 f1] 25 (0, 0)) := hd 6 (some 33) (by rfl) (by rfl)
      obtain e34 : (σ 34) = .int .i64 4 := hd 7 (some 34) (by rfl) (by rfl)
      obtain e35 : (σ 35) = .int .i64 0 := hd 8 (some 35) (by rfl) (by rfl)
      simp only [e33, e34, e35]
      refine Inv.done (by kernel_rfl) (NoPanic.normal ?_)
      have L1 := Lib.hid (Src.Left.refl hw.di)
      obtain ⟨wE, hwE⟩ : ∃ wE, wE = wx := ⟨_, rfl⟩
      replace K5 := Lib.hid (hw.blk K5.out N5)
      replace K6 := Lib.hid (hw.blk K6.out N6)
      replace K10 := Lib.hid (hw.blk K10.out N10)
      clear hd hw X4 X5 X10 hw0 L0 K4 N4 e33 e34 e35
      rw [← hwE] at L1 PE K5 K6 K10 ⊢
      clear hwE
      have PE := Lib.hid PE
      rename_i gai0 gai1 gai2 gai3 gai4 gai5 gai6 gai7 gai8 gai9 gai10 gai11 gai12 gai13 gai14 gai15
      revert a0 b0 c0 d0 e0 f0 a1 b1 c1 d1 e1 f1 x2 y2 u2 a3 len3 cap3 z3 w AW wb BW gai0 m4 m5 m6 wA n3 g N5 N6 w1 g1 g2 g3 g4 g5 g6 gai1 gai2 gai3 gai4 gai5 gai6 gai7 gai8 gai9 gai10 gai11 gai12 gai13 gai14 w2 m10 N10 σ wx bP t1 t2 t3 t4 t5 t6 NP wE gai15 L1 K5 K6 K10 PE
      exact hck_ga.out
set_option maxHeartbeats 16000000 in
set_option maxRecDepth 100000 in
noncomputable def ck_ga : (P_gb : Prop) ×' (P_gz : Prop) ×' (Ckp P_gb → Ckp P_gz → ck_root.1) := by
  apply PSigma.mk
  case snd =>
    apply PSigma.mk
    case snd =>
      intro hck_gb hck_gz
      intro a0 b0 c0 d0 e0 f0 a1 b1 c1 d1 e1 f1 x2 y2
        u2 a3 len3 cap3 z3 w AW wb BW gai0 m4 m5 m6 wA
        n3 g N5 N6 w1 g1 g2 g3 g4 g5 g6 gai1 gai2 gai3
        gai4 gai5 gai6 gai7 gai8 gai9 gai10 gai11 gai12 gai13 gai14 w2 m10 N10
        σ wx bP t1 t2 t3 t4 t5 t6 NP wE gai15 L1 K5
        K6 K10 PE

      go_wp2_with fail
      go_loopw [35] (fun i wr => ∃ j : Nat, j ≤ 4 ∧ i = .int .i64 j ∧ Hid (Src.Left wb wE wr g a3 n3 cap3 z3)) (fun i _ => (4 - intOf i).toNat)
      case atStart => exact ⟨0, by omega, rfl, L1⟩
      case round =>
        obtain ⟨jo, hjo, rfl, O⟩ := hrel
        by_cases hj4 : jo < 4
        · have PW := O.out.blk PE.out NP
          obtain ⟨x1, x2_, x3, x4, x5, x6, cp0, cp1, cp2, cp3, cp4, cp5⟩ : ∃ x1 x2_ x3 x4 x5 x6 : Int, wr.cell? ⟨bP, jo * 6, none⟩ = some (.int .i64 x1) ∧ wr.cell? ⟨bP, jo * 6 + 1, none⟩ = some (.int .i64 x2_) ∧ wr.cell? ⟨bP, jo * 6 + 2, none⟩ = some (.int .i64 x3) ∧ wr.cell? ⟨bP, jo * 6 + 3, none⟩ = some (.int .i64 x4) ∧ wr.cell? ⟨bP, jo * 6 + 4, none⟩ = some (.int .i64 x5) ∧ wr.cell? ⟨bP, jo * 6 + 5, none⟩ = some (.int .i64 x6) := by
            rcases (show jo = 0 ∨ jo = 1 ∨ jo = 2 ∨ jo = 3 by omega) with rfl | rfl | rfl | rfl
            · exact ⟨_, _, _, _, _, _, cell_of_row wr bP 0 _ _ _ PW, cell_of_row wr bP 1 _ _ _ PW, cell_of_row wr bP 2 _ _ _ PW, cell_of_row wr bP 3 _ _ _ PW, cell_of_row wr bP 4 _ _ _ PW, cell_of_row wr bP 5 _ _ _ PW⟩
            · exact ⟨_, _, _, _, _, _, cell_of_row wr bP 6 _ _ _ PW, cell_of_row wr bP 7 _ _ _ PW, cell_of_row wr bP 8 _ _ _ PW, cell_of_row wr bP 9 _ _ _ PW, cell_of_row wr bP 10 _ _ _ PW, cell_of_row wr bP 11 _ _ _ PW⟩
            · exact ⟨_, _, _, _, _, _, cell_of_row wr bP 12 _ _ _ PW, cell_of_row wr bP 13 _ _ _ PW, cell_of_row wr bP 14 _ _ _ PW, cell_of_row wr bP 15 _ _ _ PW, cell_of_row wr bP 16 _ _ _ PW, cell_of_row wr bP 17 _ _ _ PW⟩
            · exact ⟨_, _, _, _, _, _, cell_of_row wr bP 18 _ _ _ PW, cell_of_row wr bP 19 _ _ _ PW, cell_of_row wr bP 20 _ _ _ PW, cell_of_row wr bP 21 _ _ _ PW, cell_of_row wr bP 22 _ _ _ PW, cell_of_row wr bP 23 _ _ _ PW⟩
          have bjo : (jo : Int) < 4 := by omega
          clear PW
          go_upto_region 6 with fail
          obtain ⟨wB, hwB⟩ : ∃ wz, wz = wr.alloc (.cells #[.int .i64 x1, .int .i64 x2_, .int .i64 x3, .int .i64 x4, .int .i64 x5, .int .i64 x6] 25) := ⟨_, rfl⟩
          obtain ⟨bX, hbX⟩ : ∃ bz, bz = wr.heap.size := ⟨_, rfl⟩
          have hb : Below wr.heap.size wr wB := by rw [hwB]; exact new_block _
          have PX := Lib.hid (show wB.heap[bX]? = some (.cells #[.int .i64 x1, .int .i64 x2_, .int .i64 x3, .int .i64 x4, .int .i64 x5, .int .i64 x6] 25 (0, 0)) by rw [hwB, hbX]; exact heap_alloc_new wr _)
          have O1 := Lib.hid (Src.Left.refl (O.out.below hb).di)
          have OB := Lib.hid (O.out.below hb)
          have NX : bX ≠ g := by have := O.out.di.lt; omega
          rw [← hwB, ← hbX]
          clear hwB hbX hb
          clear O cp0 cp1 cp2 cp3 cp4 cp5
          rename_i gbi0 gbi1 gbi2 gbi3 gbi4
          revert a0 b0 c0 d0 e0 f0 a1 b1 c1 d1 e1 f1 x2 y2 u2 a3 len3 cap3 z3 w AW wb BW gai0 m4 m5 m6 wA n3 g N5 N6 w1 g1 g2 g3 g4 g5 g6 gai1 gai2 gai3 gai4 gai5 gai6 gai7 gai8 gai9 gai10 gai11 gai12 w2 m10 N10 σ wx bP t1 t2 t3 t4 t5 t6 NP wE gai15 L1 K5 K6 K10 PE wr u8 u12 u13 u14 u15 u16 u17 u18 u20 u22 u36 u37 u38 u39 u40 u41 u42 u43 u44 u45 u46 u47 u48 u49 u50 u51 u52 u53 u54 u55 u56 u57 u58 u59 u60 u61 u62 u63 u64 u65 u66 u67 u68 u69 u70 u71 u72 u73 u74 u75 u76 u77 u78 u79 u80 u81 u82 u83 u84 u85 u86 u87 u88 u89 u90 u91 u92 u93 u94 u95 u96 u97 u98 u99 u100 u101 u102 u103 u104 u105 u106 u107 u108 u109 u110 u111 u112 u113 u114 u115 u116 u117 u118 u119 u120 u121 u122 u123 u124 u125 u126 u127 u128 u129 u130 u131 u132 u133 u134 u135 u136 u137 u138 u139 u140 u141 u142 u143 u144 u145 u146 u147 jo hjo hj4 x1 x2_ x3 x4 x5 x6 bjo gbi0 gbi1 gbi2 gbi3 gbi4 wB bX PX O1 OB NX
          exact hck_gb.out
        · obtain rfl : jo = 4 := by omega
          revert a0 b0 c0 d0 e0 f0 a1 b1 c1 d1 e1 f1 x2 y2 u2 a3 len3 cap3 z3 w AW wb BW gai0 m4 m5 m6 wA n3 g N5 N6 w1 g1 g2 g3 g4 g5 g6 gai1 gai2 gai3 gai4 gai5 gai6 gai7 gai8 gai9 gai10 gai11 gai12 w2 m10 N10 σ wx bP t1 t2 t3 t4 t5 t6 NP wE gai15 L1 K5 K6 K10 PE wr u8 u12 u13 u14 u15 u16 u17 u18 u20 u22 u36 u37 u38 u39 u40 u41 u42 u43 u44 u45 u46 u47 u48 u49 u50 u51 u52 u53 u54 u55 u56 u57 u58 u59 u60 u61 u62 u63 u64 u65 u66 u67 u68 u69 u70 u71 u72 u73 u74 u75 u76 u77 u78 u79 u80 u81 u82 u83 u84 u85 u86 u87 u88 u89 u90 u91 u92 u93 u94 u95 u96 u97 u98 u99 u100 u101 u102 u103 u104 u105 u106 u107 u108 u109 u110 u111 u112 u113 u114 u115 u116 u117 u118 u119 u120 u121 u122 u123 u124 u125 u126 u127 u128 u129 u130 u131 u132 u133 u134 u135 u136 u137 u138 u139 u140 u141 u142 u143 u144 u145 u146 u147 O hjo hj4
          exact hck_gz.out
set_option maxHeartbeats 16000000 in
set_option maxRecDepth 100000 in
noncomputable def ck_gb : (P_gc : Prop) ×' (Ckp P_gc → ck_ga.1) := by
  apply PSigma.mk
  case snd =>
    intro hck_gc
    intro a0 b0 c0 d0 e0 f0 a1 b1 c1 d1 e1 f1 x2 y2
      u2 a3 len3 cap3 z3 w AW wb BW gai0 m4 m5 m6 wA
      n3 g N5 N6 w1 g1 g2 g3 g4 g5 g6 gai1 gai2 gai3
      gai4 gai5 gai6 gai7 gai8 gai9 gai10 gai11 gai12 w2 m10 N10 σ wx
      bP t1 t2 t3 t4 t5 t6 NP wE gai15 L1 K5 K6 K10
      PE wr u8 u12 u13 u14 u15 u16 u17 u18 u20 u22 u36 u37
      u38 u39 u40 u41 u42 u43 u44 u45 u46 u47 u48 u49 u50 u51
      u52 u53 u54 u55 u56 u57 u58 u59 u60 u61 u62 u63 u64 u65
      u66 u67 u68 u69 u70 u71 u72 u73 u74 u75 u76 u77 u78 u79
      u80 u81 u82 u83 u84 u85 u86 u87 u88 u89 u90 u91 u92 u93
      u94 u95 u96 u97 u98 u99 u100 u101 u102 u103 u104 u105 u106 u107
      u108 u109 u110 u111 u112 u113 u114 u115 u116 u117 u118 u119 u120 u121
      u122 u123 u124 u125 u126 u127 u128 u129 u130 u131 u132 u133 u134 u135
      u136 u137 u138 u139 u140 u141 u142 u143 u144 u145 u146 u147 jo hjo
      hj4 x1 x2_ x3 x4 x5 x6 bjo gbi0 gbi1 gbi2 gbi3 gbi4 wB
      bX PX O1 OB NX

    obtain ⟨p1, p2, p3, p4, p5, p6, q1, q2, q3, q4, q5, q6, ok, SA, SB⟩ := Geo.split_same x1 x2_ x3 x4 x5 x6
    replace SA := Lib.hid SA
    replace SB := Lib.hid SB
    obtain ⟨k0, k1, k2, k3, k4, k5⟩ := Geo.cells6 PX.out
    go_wp2_with fail
    with_reducible refine (SA.out _).mono ?_
    rintro e1 w1 ⟨rfl, hb⟩
    have PX1 := Lib.hid (hop hb PX.out)
    have BB := Lib.hid hb
    clear hb k0 k1 k2 k3 k4 k5
    go_upto_region 7 with fail
    obtain ⟨w2, hw2⟩ : ∃ wz, wz = (w1.alloc (.cells #[.int .i64 p1, .int .i64 p2, .int .i64 p3, .int .i64 p4, .int .i64 p5, .int .i64 p6] 25)).alloc (.cells #[.int .i64 q1, .int .i64 q2, .int .i64 q3, .int .i64 q4, .int .i64 q5, .int .i64 q6] 25) := ⟨_, rfl⟩
    obtain ⟨s1, hs1⟩ : ∃ m, m = w1.heap.size := ⟨_, rfl⟩
    obtain ⟨s2, hs2⟩ : ∃ m, m = w1.heap.size + 1 := ⟨_, rfl⟩
    have hb : Below w1.heap.size w1 w2 := by rw [hw2]; exact Buf.then_ (new_block _) (new_block _)
    have Q1 := Lib.hid (show w2.heap[s1]? = some (.cells #[.int .i64 p1, .int .i64 p2, .int .i64 p3, .int .i64 p4, .int .i64 p5, .int .i64 p6] 25 (0, 0)) by rw [hw2, hs1]; exact Geo.blk_alloc (Geo.blk_new w1 _) _)
    have Q2 := Lib.hid (show w2.heap[s2]? = some (.cells #[.int .i64 q1, .int .i64 q2, .int .i64 q3, .int .i64 q4, .int .i64 q5, .int .i64 q6] 25 (0, 0)) by rw [hw2, hs2]; exact Geo.blk_new1 w1 _ _)
    rw [← hw2, ← hs2, ← hs1]
    replace BB := Lib.hid (Buf.then_ BB.out hb)
    replace PX1 := Lib.hid (hop hb PX1.out)
    clear hb hw2 hs1 hs2
    obtain ⟨k0, k1, k2, k3, k4, k5⟩ := Geo.cells6 PX1.out
    go_wp2_with fail
    with_reducible refine (SB.out _).mono ?_
    rintro e1 w3 ⟨rfl, hb⟩
    replace PX1 := Lib.hid (hop hb PX1.out)
    replace BB := Lib.hid (Buf.then_ BB.out hb)
    replace Q1 := Lib.hid (hop hb Q1.out)
    replace Q2 := Lib.hid (hop hb Q2.out)
    clear hb k0 k1 k2 k3 k4 k5
    go_upto_region 8 with fail
    obtain ⟨w4, hw4⟩ : ∃ wz, wz = (w3.alloc (.cells #[.int .i64 p1, .int .i64 p2, .int .i64 p3, .int .i64 p4, .int .i64 p5, .int .i64 p6] 25)).alloc (.cells #[.int .i64 q1, .int .i64 q2, .int .i64 q3, .int .i64 q4, .int .i64 q5, .int .i64 q6] 25) := ⟨_, rfl⟩
    obtain ⟨s3, hs3⟩ : ∃ m, m = w3.heap.size := ⟨_, rfl⟩
    obtain ⟨s4, hs4⟩ : ∃ m, m = w3.heap.size + 1 := ⟨_, rfl⟩
    have hb : Below w3.heap.size w3 w4 := by rw [hw4]; exact Buf.then_ (new_block _) (new_block _)
    have Q3 := Lib.hid (show w4.heap[s3]? = some (.cells #[.int .i64 p1, .int .i64 p2, .int .i64 p3, .int .i64 p4, .int .i64 p5, .int .i64 p6] 25 (0, 0)) by rw [hw4, hs3]; exact Geo.blk_alloc (Geo.blk_new w3 _) _)
    have Q4 := Lib.hid (show w4.heap[s4]? = some (.cells #[.int .i64 q1, .int .i64 q2, .int .i64 q3, .int .i64 q4, .int .i64 q5, .int .i64 q6] 25 (0, 0)) by rw [hw4, hs4]; exact Geo.blk_new1 w3 _ _)
    rw [← hw4, ← hs4, ← hs3]
    replace BB := Lib.hid (Buf.then_ BB.out hb)
    replace PX1 := Lib.hid (hop hb PX1.out)
    replace Q1 := Lib.hid (hop hb Q1.out)
    replace Q2 := Lib.hid (hop hb Q2.out)
    clear hb hw4 hs3 hs4 SA SB
    obtain ⟨v1, VA, VB⟩ := Geo.validBox_same x1 x2_ x3 x4 x5 x6
    replace VA := Lib.hid VA
    replace VB := Lib.hid VB
    obtain ⟨v2, PA, PB⟩ := Geo.points_same x1 x2_ x3 x4 x5 x6
    replace PA := Lib.hid PA
    replace PB := Lib.hid PB
    obtain ⟨v3, v4, v5, CA, CB⟩ := Geo.center_same x1 x2_ x3 x4 x5 x6
    replace CA := Lib.hid CA
    replace CB := Lib.hid CB
    have d1 : (v1 != v1) = false := by simp
    have d2 : (v2 != v2) = false := by simp
    have d3 : (ok != ok) = false := by simp
    have n1 := pos_neq v3 v4 v5
    have n2 := box_neq p1 p2 p3 p4 p5 p6
    have n3 := box_neq q1 q2 q3 q4 q5 q6
    go_cut [84] from 51 to 83 (fun s wx => s = .bool false ∧ ∃ wz, wz = wx ∧ Hid (Below w4.heap.size w4 wz))
    case first =>
      refine Buf.region_calm w4 (by kernel_rfl) (by kernel_rfl) (Below.refl _ _) ?_
      repeat (first
        | (go_big_quiet_want; refine quiet_row 25 (.tmp 12) rfl bX rfl 25 #[.int .i64 x1, .int .i64 x2_, .int .i64 x3, .int .i64 x4, .int .i64 x5, .int .i64 x6] (0, 0) _ (fun _ hC => hop hC PX1.out) rfl rfl rfl ?_; go_big_quiet_on; try simp only [Act.put, List.setIfInBounds_toArray, List.set_cons_zero, List.set_cons_succ])
        | (go_big_quiet_want; refine quiet_row 25 (.tmp 13) rfl s1 rfl 25 #[.int .i64 p1, .int .i64 p2, .int .i64 p3, .int .i64 p4, .int .i64 p5, .int .i64 p6] (0, 0) _ (fun _ hC => hop hC Q1.out) rfl rfl rfl ?_; go_big_quiet_on; try simp only [Act.put, List.setIfInBounds_toArray, List.set_cons_zero, List.set_cons_succ])
        | (go_big_quiet_want; refine quiet_row 25 (.tmp 16) rfl s3 rfl 25 #[.int .i64 p1, .int .i64 p2, .int .i64 p3, .int .i64 p4, .int .i64 p5, .int .i64 p6] (0, 0) _ (fun _ hC => hop hC Q3.out) rfl rfl rfl ?_; go_big_quiet_on; try simp only [Act.put, List.setIfInBounds_toArray, List.set_cons_zero, List.set_cons_succ])
        | (go_big_quiet_want; refine quiet_row 25 (.tmp 14) rfl s2 rfl 25 #[.int .i64 q1, .int .i64 q2, .int .i64 q3, .int .i64 q4, .int .i64 q5, .int .i64 q6] (0, 0) _ (fun _ hC => hop hC Q2.out) rfl rfl rfl ?_; go_big_quiet_on; try simp only [Act.put, List.setIfInBounds_toArray, List.set_cons_zero, List.set_cons_succ])
        | (go_big_quiet_want; refine quiet_row 25 (.tmp 17) rfl s4 rfl 25 #[.int .i64 q1, .int .i64 q2, .int .i64 q3, .int .i64 q4, .int .i64 q5, .int .i64 q6] (0, 0) _ (fun _ hC => hop hC Q4.out) rfl rfl rfl ?_; go_big_quiet_on; try simp only [Act.put, List.setIfInBounds_toArray, List.set_cons_zero, List.set_cons_succ])
        | go_big_quiet_step ((intro hC; first
           | (go_at_call 13; with_reducible exact Buf.calm hC (VA.out _))
           | (go_at_call 14; with_reducible exact Buf.calm hC (VB.out _))
           | (go_at_call 15; with_reducible exact Buf.calm hC (PA.out _))
           | (go_at_call 16; with_reducible exact Buf.calm hC (PB.out _))
           | (go_at_call 17; with_reducible exact Buf.calm hC (CA.out _))
           | (go_at_call 18; with_reducible exact Buf.calm hC (CB.out _))
           | rfl)))
      refine wpQuiet_nil ?_
      intro w8 hb
      go_wp2_with fail
      go_meet
      exact ⟨rfl, _, rfl, Lib.hid hb⟩
    case rest =>
      obtain ⟨rfl, w5, rfl, hbb⟩ := hcut
      have O2 := Lib.hid (O1.out.below (Buf.then_ BB.out hbb.out))
      replace OB := Lib.hid (OB.out.trans O2.out)
      replace PX := Lib.hid (hop (Buf.then_ BB.out hbb.out) PX.out)
      clear VA VB PA PB CA CB d1 d2 d3 n1 n2 n3 hbb BB O1 Q1 Q2 Q3 Q4 PX1
      rename_i gci0 gci1 gci2 gci3 gci4 gci5 gci6 gci7 gci8 gci9 gci10 gci11 gci12 gci13 gci14 gci15 gci16 gci17 gci18 gci19 gci20 gci21 gci22 gci23 gci24 gci25 gci26 gci27 gci28 gci29 gci30 gci31 gci32 gci33 gci34 gci35 gci36 gci37 gci38
      revert a0 b0 c0 d0 e0 f0 a1 b1 c1 d1 e1 f1 x2 y2 u2 a3 len3 cap3 z3 w AW wb BW gai0 m4 m5 m6 wA n3 g N5 N6 gci0 g1 g2 g3 g4 g5 g6 gai1 gai2 gai3 gai4 gai5 gai6 gai7 gai8 gai9 gai10 gai11 gai12 gci1 m10 N10 σ wx bP t1 t2 t3 t4 t5 t6 NP wE gai15 L1 K5 K6 K10 PE wr u8 u12 u13 u14 u15 u16 u17 u18 u20 u22 u36 u37 u38 u39 u40 u41 u42 u43 u44 u45 u46 u47 u48 u49 u50 gci2 gci3 gci4 gci5 gci6 gci7 gci8 gci9 gci10 gci11 gci12 gci13 gci14 gci15 gci16 gci17 gci18 gci19 gci20 gci21 gci22 gci23 gci24 gci25 gci26 gci27 gci28 gci29 gci30 gci31 gci32 gci33 gci34 u84 u85 u86 u87 u88 u89 u90 u91 u92 u93 u94 u95 u96 u97 u98 u99 u100 u101 u102 u103 u104 u105 u106 u107 u108 u109 u110 u111 u112 u113 u114 u115 u116 u117 u118 u119 u120 u121 u122 u123 u124 u125 u126 u127 u128 u129 u130 u131 u132 u133 u134 u135 u136 u137 u138 u139 u140 u141 u142 u143 u144 u145 u146 u147 jo hjo hj4 x1 x2_ x3 x4 x5 x6 bjo gbi0 gbi1 gbi2 wB bX NX p1 p2 p3 p4 p5 p6 q1 q2 q3 q4 q5 q6 ok w1 w2 s1 s2 w3 gci35 gci36 gci37 gci38 w4 s3 s4 v1 v2 v3 v4 v5 u51 u52 u53 u54 u55 u56 u57 u58 u59 u60 u61 u62 u63 u64 u65 u66 u67 u68 u69 u70 u71 u72 u73 u74 u75 u76 u77 u78 u79 u80 u81 u82 u83 w5 O2 OB PX
      exact hck_gc.out
set_option maxHeartbeats 16000000 in
set_option maxRecDepth 100000 in
noncomputable def ck_gc : (P_gd : Prop) ×' (P_ge : Prop) ×' (Ckp P_gd → Ckp P_ge → ck_gb.1) := by
  apply PSigma.mk
  case snd =>
    apply PSigma.mk
    case snd =>
      intro hck_gd hck_ge
      intro a0 b0 c0 d0 e0 f0 a1 b1 c1 d1 e1 f1 x2 y2
        u2 a3 len3 cap3 z3 w AW wb BW gai0 m4 m5 m6 wA
        n3 g N5 N6 gci0 g1 g2 g3 g4 g5 g6 gai1 gai2 gai3
        gai4 gai5 gai6 gai7 gai8 gai9 gai10 gai11 gai12 gci1 m10 N10 σ wx
        bP t1 t2 t3 t4 t5 t6 NP wE gai15 L1 K5 K6 K10
        PE wr u8 u12 u13 u14 u15 u16 u17 u18 u20 u22 u36 u37
        u38 u39 u40 u41 u42 u43 u44 u45 u46 u47 u48 u49 u50 gci2
        gci3 gci4 gci5 gci6 gci7 gci8 gci9 gci10 gci11 gci12 gci13 gci14 gci15 gci16
        gci17 gci18 gci19 gci20 gci21 gci22 gci23 gci24 gci25 gci26 gci27 gci28 gci29 gci30
        gci31 gci32 gci33 gci34 u84 u85 u86 u87 u88 u89 u90 u91 u92 u93
        u94 u95 u96 u97 u98 u99 u100 u101 u102 u103 u104 u105 u106 u107
        u108 u109 u110 u111 u112 u113 u114 u115 u116 u117 u118 u119 u120 u121
        u122 u123 u124 u125 u126 u127 u128 u129 u130 u131 u132 u133 u134 u135
        u136 u137 u138 u139 u140 u141 u142 u143 u144 u145 u146 u147 jo hjo
        hj4 x1 x2_ x3 x4 x5 x6 bjo gbi0 gbi1 gbi2 wB bX NX
        p1 p2 p3 p4 p5 p6 q1 q2 q3 q4 q5 q6 ok w1
        w2 s1 s2 w3 gci35 gci36 gci37 gci38 w4 s3 s4 v1 v2 v3
        v4 v5 u51 u52 u53 u54 u55 u56 u57 u58 u59 u60 u61 u62
        u63 u64 u65 u66 u67 u68 u69 u70 u71 u72 u73 u74 u75 u76
        u77 u78 u79 u80 u81 u82 u83 w5 O2 OB PX

      go_upto_region 10 with fail
      have X6 := Lib.hid fun wz (hl : Src.Left wb w5 wz g a3 n3 cap3 z3) => hl.blk (OB.out.blk K6.out N6) N6
      have hw0 : Src.Left wb w5 w5.drew g a3 n3 cap3 z3 := (Src.Left.refl O2.out.di).drew
      refine wp_region_noPanic ?_
      refine wp_region_any (by kernel_rfl) ?_
      refine Inv.wpAny_inv (fun k => false) [85, 86, 87, 88, 89, 90] (fun w' => Src.Left wb w5 w' g a3 n3 cap3 z3) (fun _ w1 w2 => w1.grownBy w2 (some g)) (fun k => ([fun v_ w_ => v_ = .agg #[.int .i64 x2, .int .i64 y2, .int .i64 u2], fun v_ w_ => v_ = .pointer (some ⟨g, 0, none⟩), fun v_ w_ => ∃ t1 t2 t3 : Int, v_ = .agg #[.int .i64 t1, .int .i64 t2, .int .i64 t3], fun v_ w_ => ∃ (h : Nat) (t1 t2 t3 : Int), v_ = .slice (some ⟨h, 0, none⟩) 2 2 ∧ h ≠ g ∧ w_.heap[h]? = some (.cells #[.int .i64 x2, .int .i64 y2, .int .i64 u2, .int .i64 t1, .int .i64 t2, .int .i64 t3] 23 (0, 0)), fun v_ w_ => v_ = .int .i64 2, fun v_ w_ => v_ = .int .i64 0] : List (Value → World → Prop)).getD k (fun _ _ => True)) _ (fun σ => by simp only [Inv.putAll, List.foldl_cons, List.foldl_nil, Act.put, List.setIfInBounds_toArray, List.set_cons_zero, List.set_cons_succ]; rfl) (by kernel_rfl) (by kernel_rfl) ?_ hw0 ?_ ?_ 0 #[true, true, true, true, true, true] (by kernel_rfl) (by kernel_rfl) ?_
      · intro j k v w1 w2 hjk hv hr
        rcases k with _ | k
        · exact hv
        rcases k with _ | k
        · exact hv
        rcases k with _ | k
        · exact hv
        rcases k with _ | k
        · exact by obtain ⟨h, y1, y2, y3, h1, h2, h3⟩ := hv; exact ⟨h, y1, y2, y3, h1, h2, (hr.block h (Array.getElem?_eq_some_iff.1 h3).1 (by simpa using h2)).trans h3⟩
        rcases k with _ | k
        · exact hv
        rcases k with _ | k
        · exact hv
        · exact hv
      · intro k t hl hd
        rcases k with _ | k
        · exact absurd hl (by decide +kernel)
        rcases k with _ | k
        · exact absurd hl (by decide +kernel)
        rcases k with _ | k
        · exact absurd hl (by decide +kernel)
        rcases k with _ | k
        · exact absurd hl (by decide +kernel)
        rcases k with _ | k
        · exact absurd hl (by decide +kernel)
        rcases k with _ | k
        · exact absurd hl (by decide +kernel)
        · simp at hd
      · show Inv.Steps _ _ _ _ _ _ _ _ [0, 1, 2, 3, 4, 5]
        refine Inv.Steps.go (by decide) (by rfl) (fun σ wx hw hd K hK => ?_) ?_
        · simp only [List.getElem_toArray, List.getElem_cons_zero, List.getElem_cons_succ, Act.put, List.setIfInBounds_toArray, List.set_cons_zero, List.set_cons_succ] at hK ⊢
          have hx := X6.out _ hw
          refine wp_load_row 23 (.tmp 6) rfl m6 rfl 23 #[.int .i64 x2, .int .i64 y2, .int .i64 u2] (0, 0) _ hx rfl rfl rfl ?_
          simp only [Act.put, List.setIfInBounds_toArray, List.set_cons_zero, List.set_cons_succ]
          exact hK.out _ _ hw (World.grownBy.refl _ _) (rfl)
        refine Inv.Steps.go (by decide) (by rfl) (fun σ wx hw hd K hK => ?_) ?_
        · simp only [List.getElem_toArray, List.getElem_cons_zero, List.getElem_cons_succ, Act.put, List.setIfInBounds_toArray, List.set_cons_zero, List.set_cons_succ] at hK ⊢
          go_simp
          exact hK.out _ _ hw (World.grownBy.refl _ _) (rfl)
        refine Inv.Steps.go (by decide) (by rfl) (fun σ wx hw hd K hK => ?_) ?_
        · obtain e86 : (σ 86) = .pointer (some ⟨g, 0, none⟩) := hd 1 (some 86) (by kernel_rfl) (by rfl)
          simp only [List.getElem_toArray, List.getElem_cons_zero, List.getElem_cons_succ, Act.put, List.setIfInBounds_toArray, List.set_cons_zero, List.set_cons_succ, e86] at hK ⊢
          go_simp
          go_at_call 19
          refine (Src.position_any 60 hw.di (by omega) (by omega)).mono ?_
          rintro e w1 ⟨⟨q1, q2, q3, rfl, _⟩, hl_⟩
          dsimp only
          exact hK.out _ _ (hw.trans hl_) hl_.far (⟨_, _, _, rfl⟩)
        refine Inv.Steps.go (by decide) (by rfl) (fun σ wx hw hd K hK => ?_) ?_
        · obtain e85 : (σ 85) = .agg #[.int .i64 x2, .int .i64 y2, .int .i64 u2] := hd 0 (some 85) (by kernel_rfl) (by rfl)
          obtain ⟨r1, r2, r3, e87⟩ : ∃ t1 t2 t3 : Int, (σ 87) = .agg #[.int .i64 t1, .int .i64 t2, .int .i64 t3] := hd 2 (some 87) (by kernel_rfl) (by rfl)
          simp only [List.getElem_toArray, List.getElem_cons_zero, List.getElem_cons_succ, Act.put, List.setIfInBounds_toArray, List.set_cons_zero, List.set_cons_succ, e85, e87] at hK ⊢
          have hlt := hw.di.lt
          go_simp
          exact hK.out _ _ (hw.below (new_block _)) (Src.Left.far ((Src.Left.refl hw.di).below (new_block _))) (⟨_, _, _, _, rfl, by omega, heap_alloc_new _ _⟩)
        refine Inv.Steps.go (by decide) (by rfl) (fun σ wx hw hd K hK => ?_) ?_
        · obtain ⟨bQ, r1, r2, r3, e88, NQ, PQ⟩ : ∃ (h : Nat) (t1 t2 t3 : Int), (σ 88) = .slice (some ⟨h, 0, none⟩) 2 2 ∧ h ≠ g ∧ wx.heap[h]? = some (.cells #[.int .i64 x2, .int .i64 y2, .int .i64 u2, .int .i64 t1, .int .i64 t2, .int .i64 t3] 23 (0, 0)) := hd 3 (some 88) (by kernel_rfl) (by rfl)
          simp only [List.getElem_toArray, List.getElem_cons_zero, List.getElem_cons_succ, Act.put, List.setIfInBounds_toArray, List.set_cons_zero, List.set_cons_succ, e88] at hK ⊢
          go_simp
          exact hK.out _ _ hw (World.grownBy.refl _ _) (rfl)
        refine Inv.Steps.go (by decide) (by rfl) (fun σ wx hw hd K hK => ?_) ?_
        · simp only [List.getElem_toArray, List.getElem_cons_zero, List.getElem_cons_succ, Act.put, List.setIfInBounds_toArray, List.set_cons_zero, List.set_cons_succ] at hK ⊢
          go_simp
          exact hK.out _ _ hw (World.grownBy.refl _ _) (rfl)
        exact Inv.Steps.nil
      · intro σ wx hw hd
        obtain ⟨bQ, r1, r2, r3, e88, NQ, PQ⟩ : ∃ (h : Nat) (t1 t2 t3 : Int), (σ 88) = .slice (some ⟨h, 0, none⟩) 2 2 ∧ h ≠ g ∧ wx.heap[h]? = some (.cells #[.int .i64 x2, .int .i64 y2, .int .i64 u2, .int .i64 t1, .int .i64 t2, .int .i64 t3] 23 (0, 0)) := hd 3 (some 88) (by rfl) (by rfl)
        obtain e89 : (σ 89) = .int .i64 2 := hd 4 (some 89) (by rfl) (by rfl)
        obtain e90 : (σ 90) = .int .i64 0 := hd 5 (some 90) (by rfl) (by rfl)
        simp only [e88, e89, e90]
        refine Inv.done (by kernel_rfl) (NoPanic.normal ?_)
        have L3 := Lib.hid (Src.Left.refl hw.di)
        obtain ⟨wF, hwF⟩ : ∃ wF, wF = wx := ⟨_, rfl⟩
        replace PX := Lib.hid (hw.blk PX.out NX)
        have OB1 := Lib.hid (OB.out.trans hw)
        clear hd hw X6 hw0 O2 OB e88 e89 e90
        rw [← hwF] at L3 PQ PX OB1 ⊢
        clear hwF
        have PQ := Lib.hid PQ
        go_wp2_with fail
        go_loopw [90] (fun i wr => ∃ j : Nat, j ≤ 2 ∧ i = .int .i64 j ∧ Hid (Src.Left wb wF wr g a3 n3 cap3 z3)) (fun i _ => (2 - intOf i).toNat)
        case atStart => exact ⟨0, by omega, rfl, L3⟩
        case round =>
          obtain ⟨ji, hji, rfl, O⟩ := hrel
          by_cases hj2 : ji < 2
          · skip
            rename_i gdi0 gdi1 gdi2 gdi3 gdi4 gdi5 gdi6 gdi7 gdi8 gdi9 gdi10 gdi11 gdi12 gdi13 gdi14 gdi15 gdi16 gdi17 gdi18 gdi19 gdi20 gdi21 gdi22 gdi23 gdi24 gdi25 gdi26 gdi27 gdi28 gdi29 gdi30 gdi31 gdi32 gdi33 gdi34 gdi35 gdi36
            revert a0 b0 c0 d0 e0 f0 a1 b1 c1 d1 e1 f1 x2 y2 u2 a3 len3 cap3 z3 w AW wb BW gai0 m4 m5 m6 wA n3 g N5 N6 gci0 g1 g2 g3 g4 g5 g6 gai1 gai2 gai3 gai4 gai5 gai6 gai7 gai8 gai9 gai10 gai11 gai12 gci1 m10 N10 gdi0 gdi1 bP t1 t2 t3 t4 t5 t6 NP wE gai15 L1 K5 K6 K10 PE gdi2 gdi3 u12 u13 u14 u15 u16 u17 u18 gdi4 u22 u36 u37 u38 u39 u40 u41 u42 u43 u44 u45 u46 u47 u48 u49 u50 gci2 gci3 gci4 gci5 gci6 gci7 gci8 gci9 gci10 gci11 gci12 gci13 gci14 gci15 gci16 gci17 gci18 gci19 gci20 gci21 gci22 gci23 gci24 gci25 gci26 gci27 gci28 gci29 gci30 gci31 gci32 gci33 gci34 u84 u85 u86 u87 u88 u89 u90 gdi5 gdi6 gdi7 gdi8 gdi9 gdi10 gdi11 gdi12 gdi13 gdi14 gdi15 gdi16 gdi17 gdi18 gdi19 gdi20 gdi21 gdi22 gdi23 gdi24 gdi25 gdi26 gdi27 gdi28 gdi29 gdi30 gdi31 gdi32 gdi33 u120 u121 u122 u123 u124 u125 u126 u127 u128 u129 u130 u131 u132 u133 u134 u135 u136 u137 u138 u139 u140 u141 u142 u143 u144 u145 u146 u147 jo hjo hj4 x1 x2_ x3 x4 x5 x6 bjo gbi0 gbi1 gbi2 wB bX NX p1 p2 p3 p4 p5 p6 q1 q2 q3 q4 q5 q6 ok w1 w2 s1 s2 w3 w4 s3 s4 v1 v2 v3 v4 v5 u51 u52 u53 u54 u55 u56 u57 u58 u59 u60 u61 u62 u63 u64 u65 u66 u67 u68 u69 u70 u71 u72 u73 u74 u75 u76 u77 u78 u79 u80 u81 u82 u83 w5 gdi34 gdi35 σ wx bQ r1 r2 r3 NQ wF gdi36 L3 PX OB1 PQ wr u8 u20 u91 u92 u93 u94 u95 u96 u97 u98 u99 u100 u101 u102 u103 u104 u105 u106 u107 u108 u109 u110 u111 u112 u113 u114 u115 u116 u117 u118 u119 ji hji O hj2
            exact hck_gd.out
          · obtain rfl : ji = 2 := by omega
            replace PX := Lib.hid (O.out.blk PX.out NX)
            replace OB1 := Lib.hid (OB1.out.trans O.out)
            replace O := Lib.hid (Src.Left.refl O.out.di)
            clear L3 PQ hj2 hji
            rename_i gei0 gei1 gei2 gei3 gei4 gei5 gei6 gei7 gei8 gei9 gei10 gei11 gei12 gei13 gei14 gei15 gei16 gei17 gei18 gei19 gei20 gei21 gei22 gei23 gei24 gei25 gei26 gei27 gei28 gei29 gei30 gei31 gei32 gei33 gei34 gei35
            revert a0 b0 c0 d0 e0 f0 a1 b1 c1 d1 e1 f1 x2 y2 u2 a3 len3 cap3 z3 w AW wb BW gai0 m4 m5 m6 wA n3 g N5 N6 gci0 g1 g2 g3 g4 g5 g6 gai1 gai2 gai3 gai4 gai5 gai6 gai7 gai8 gai9 gai10 gai11 gai12 gci1 m10 N10 gei0 gei1 bP t1 t2 t3 t4 t5 t6 NP wE gai15 L1 K5 K6 K10 PE gei2 gei3 u12 u13 u14 u15 u16 u17 u18 gei4 u22 u36 u37 u38 u39 u40 u41 u42 u43 u44 u45 u46 u47 u48 u49 u50 gci2 gci3 gci4 gci5 gci6 gci7 gci8 gci9 gci10 gci11 gci12 gci13 gci14 gci15 gci16 gci17 gci18 gci19 gci20 gci21 gci22 gci23 gci24 gci25 gci26 gci27 gci28 gci29 gci30 gci31 gci32 gci33 gci34 u84 u85 u86 u87 u88 u89 u90 gei5 gei6 gei7 gei8 gei9 gei10 gei11 gei12 gei13 gei14 gei15 gei16 gei17 gei18 gei19 gei20 gei21 gei22 gei23 gei24 gei25 gei26 gei27 gei28 gei29 gei30 gei31 gei32 gei33 u120 u121 u122 u123 u124 u125 u126 u127 u128 u129 u130 u131 u132 u133 u134 u135 u136 u137 u138 u139 u140 u141 u142 u143 u144 u145 u146 u147 jo hjo hj4 x1 x2_ x3 x4 x5 x6 bjo gbi0 gbi1 gbi2 wB bX NX p1 p2 p3 p4 p5 p6 q1 q2 q3 q4 q5 q6 ok w1 w2 s1 s2 w3 w4 s3 s4 v1 v2 v3 v4 v5 u51 u52 u53 u54 u55 u56 u57 u58 u59 u60 u61 u62 u63 u64 u65 u66 u67 u68 u69 u70 u71 u72 u73 u74 u75 u76 u77 u78 u79 u80 u81 u82 u83 w5 gei34 gei35 σ wx bQ r1 r2 r3 NQ wF PQ wr u8 u20 u91 u92 u93 u94 u95 u96 u97 u98 u99 u100 u101 u102 u103 u104 u105 u106 u107 u108 u109 u110 u111 u112 u113 u114 u115 u116 u117 u118 u119 PX OB1 O
            exact hck_ge.out
set_option maxHeartbeats 16000000 in
set_option maxRecDepth 100000 in
theorem ck_gd : ck_gc.1 := by
  intro a0 b0 c0 d0 e0 f0 a1 b1 c1 d1 e1 f1 x2 y2
    u2 a3 len3 cap3 z3 w AW wb BW gai0 m4 m5 m6 wA
    n3 g N5 N6 gci0 g1 g2 g3 g4 g5 g6 gai1 gai2 gai3
    gai4 gai5 gai6 gai7 gai8 gai9 gai10 gai11 gai12 gci1 m10 N10 gdi0 gdi1
    bP t1 t2 t3 t4 t5 t6 NP wE gai15 L1 K5 K6 K10
    PE gdi2 gdi3 u12 u13 u14 u15 u16 u17 u18 gdi4 u22 u36 u37
    u38 u39 u40 u41 u42 u43 u44 u45 u46 u47 u48 u49 u50 gci2
    gci3 gci4 gci5 gci6 gci7 gci8 gci9 gci10 gci11 gci12 gci13 gci14 gci15 gci16
    gci17 gci18 gci19 gci20 gci21 gci22 gci23 gci24 gci25 gci26 gci27 gci28 gci29 gci30
    gci31 gci32 gci33 gci34 u84 u85 u86 u87 u88 u89 u90 gdi5 gdi6 gdi7
    gdi8 gdi9 gdi10 gdi11 gdi12 gdi13 gdi14 gdi15 gdi16 gdi17 gdi18 gdi19 gdi20 gdi21
    gdi22 gdi23 gdi24 gdi25 gdi26 gdi27 gdi28 gdi29 gdi30 gdi31 gdi32 gdi33 u120 u121
    u122 u123 u124 u125 u126 u127 u128 u129 u130 u131 u132 u133 u134 u135
    u136 u137 u138 u139 u140 u141 u142 u143 u144 u145 u146 u147 jo hjo
    hj4 x1 x2_ x3 x4 x5 x6 bjo gbi0 gbi1 gbi2 wB bX NX
    p1 p2 p3 p4 p5 p6 q1 q2 q3 q4 q5 q6 ok w1
    w2 s1 s2 w3 w4 s3 s4 v1 v2 v3 v4 v5 u51 u52
    u53 u54 u55 u56 u57 u58 u59 u60 u61 u62 u63 u64 u65 u66
    u67 u68 u69 u70 u71 u72 u73 u74 u75 u76 u77 u78 u79 u80
    u81 u82 u83 w5 gdi34 gdi35 σ wx bQ r1 r2 r3 NQ wF
    gdi36 L3 PX OB1 PQ wr u8 u20 u91 u92 u93 u94 u95 u96
    u97 u98 u99 u100 u101 u102 u103 u104 u105 u106 u107 u108 u109 u110
    u111 u112 u113 u114 u115 u116 u117 u118 u119 ji hji O hj2

  have PW := O.out.blk PQ.out NQ
  obtain ⟨h1, h2, h3, cp0, cp1, cp2⟩ : ∃ h1 h2 h3 : Int, wr.cell? ⟨bQ, ji * 3, none⟩ = some (.int .i64 h1) ∧ wr.cell? ⟨bQ, ji * 3 + 1, none⟩ = some (.int .i64 h2) ∧ wr.cell? ⟨bQ, ji * 3 + 2, none⟩ = some (.int .i64 h3) := by
    rcases (show ji = 0 ∨ ji = 1 by omega) with rfl | rfl
    · exact ⟨_, _, _, cell_of_row wr bQ 0 _ _ _ PW, cell_of_row wr bQ 1 _ _ _ PW, cell_of_row wr bQ 2 _ _ _ PW⟩
    · exact ⟨_, _, _, cell_of_row wr bQ 3 _ _ _ PW, cell_of_row wr bQ 4 _ _ _ PW, cell_of_row wr bQ 5 _ _ _ PW⟩
  have bji : (ji : Int) < 2 := by omega
  clear PW
  go_upto_region 13 with fail
  obtain ⟨wG, hwG⟩ : ∃ wz, wz = wr.alloc (.cells #[.int .i64 h1, .int .i64 h2, .int .i64 h3] 23) := ⟨_, rfl⟩
  obtain ⟨bY, hbY⟩ : ∃ bz, bz = wr.heap.size := ⟨_, rfl⟩
  have hb : Below wr.heap.size wr wG := by rw [hwG]; exact new_block _
  have PY := Lib.hid (show wG.heap[bY]? = some (.cells #[.int .i64 h1, .int .i64 h2, .int .i64 h3] 23 (0, 0)) by rw [hwG, hbY]; exact heap_alloc_new wr _)
  have O3 := Lib.hid (O.out.below hb)
  have PX3 := Lib.hid (hop hb (O.out.blk PX.out NX))
  rw [← hwG, ← hbY]
  clear hwG hbY hb
  clear O cp0 cp1 cp2
  obtain ⟨v1, VA, VB⟩ := Geo.near_same x1 x2_ x3 x4 x5 x6 h1 h2 h3
  replace VA := Lib.hid VA
  replace VB := Lib.hid VB
  obtain ⟨v2, PA, PB⟩ := Geo.far_same x1 x2_ x3 x4 x5 x6 h1 h2 h3
  replace PA := Lib.hid PA
  replace PB := Lib.hid PB
  obtain ⟨v3, CA, CB⟩ := Geo.contains_same x1 x2_ x3 x4 x5 x6 h1 h2 h3
  replace CA := Lib.hid CA
  replace CB := Lib.hid CB
  have d1 : (v1 != v1) = false := by simp
  have d2 : (v2 != v2) = false := by simp
  have d3 : (v3 != v3) = false := by simp
  go_cut [118] from 94 to 117 (fun s wx => s = .bool false ∧ ∃ wz, wz = wx ∧ Hid (Below wG.heap.size wG wz))
  case first =>
    refine Buf.region_calm wG (by kernel_rfl) (by kernel_rfl) (Below.refl _ _) ?_
    repeat (first
      | (go_big_quiet_want; refine quiet_row 25 (.tmp 12) rfl bX rfl 25 #[.int .i64 x1, .int .i64 x2_, .int .i64 x3, .int .i64 x4, .int .i64 x5, .int .i64 x6] (0, 0) _ (fun _ hC => hop hC PX3.out) rfl rfl rfl ?_; go_big_quiet_on; try simp only [Act.put, List.setIfInBounds_toArray, List.set_cons_zero, List.set_cons_succ])
      | (go_big_quiet_want; refine quiet_row 23 (.tmp 20) rfl bY rfl 23 #[.int .i64 h1, .int .i64 h2, .int .i64 h3] (0, 0) _ (fun _ hC => hop hC PY.out) rfl rfl rfl ?_; go_big_quiet_on; try simp only [Act.put, List.setIfInBounds_toArray, List.set_cons_zero, List.set_cons_succ])
      | go_big_quiet_step ((intro hC; first
         | (go_at_call 20; with_reducible exact Buf.calm hC (VA.out _))
         | (go_at_call 21; with_reducible exact Buf.calm hC (VB.out _))
         | (go_at_call 22; with_reducible exact Buf.calm hC (PA.out _))
         | (go_at_call 23; with_reducible exact Buf.calm hC (PB.out _))
         | (go_at_call 24; with_reducible exact Buf.calm hC (CA.out _))
         | (go_at_call 25; with_reducible exact Buf.calm hC (CB.out _))
         | rfl)))
    refine wpQuiet_nil ?_
    intro w8 hb
    go_wp2_with fail
    go_meet
    exact ⟨rfl, _, rfl, Lib.hid hb⟩
  case rest =>
    obtain ⟨rfl, wz, rfl, hbb⟩ := hcut
    have O4 := Lib.hid (O3.out.below hbb.out)
    clear VA VB PA PB CA CB d1 d2 d3 hbb O3
    go_wp2_with fail
    go_roundw
    case rel => exact ⟨ji + 1, by omega, by go_num, O4⟩
    case measure => simp [intOf]; omega
set_option maxHeartbeats 16000000 in
set_option maxRecDepth 100000 in
noncomputable def ck_ge : (P_gf : Prop) ×' (Ckp P_gf → ck_gc.2.1) := by
  apply PSigma.mk
  case snd =>
    intro hck_gf
    intro a0 b0 c0 d0 e0 f0 a1 b1 c1 d1 e1 f1 x2 y2
      u2 a3 len3 cap3 z3 w AW wb BW gai0 m4 m5 m6 wA
      n3 g N5 N6 gci0 g1 g2 g3 g4 g5 g6 gai1 gai2 gai3
      gai4 gai5 gai6 gai7 gai8 gai9 gai10 gai11 gai12 gci1 m10 N10 gei0 gei1
      bP t1 t2 t3 t4 t5 t6 NP wE gai15 L1 K5 K6 K10
      PE gei2 gei3 u12 u13 u14 u15 u16 u17 u18 gei4 u22 u36 u37
      u38 u39 u40 u41 u42 u43 u44 u45 u46 u47 u48 u49 u50 gci2
      gci3 gci4 gci5 gci6 gci7 gci8 gci9 gci10 gci11 gci12 gci13 gci14 gci15 gci16
      gci17 gci18 gci19 gci20 gci21 gci22 gci23 gci24 gci25 gci26 gci27 gci28 gci29 gci30
      gci31 gci32 gci33 gci34 u84 u85 u86 u87 u88 u89 u90 gei5 gei6 gei7
      gei8 gei9 gei10 gei11 gei12 gei13 gei14 gei15 gei16 gei17 gei18 gei19 gei20 gei21
      gei22 gei23 gei24 gei25 gei26 gei27 gei28 gei29 gei30 gei31 gei32 gei33 u120 u121
      u122 u123 u124 u125 u126 u127 u128 u129 u130 u131 u132 u133 u134 u135
      u136 u137 u138 u139 u140 u141 u142 u143 u144 u145 u146 u147 jo hjo
      hj4 x1 x2_ x3 x4 x5 x6 bjo gbi0 gbi1 gbi2 wB bX NX
      p1 p2 p3 p4 p5 p6 q1 q2 q3 q4 q5 q6 ok w1
      w2 s1 s2 w3 w4 s3 s4 v1 v2 v3 v4 v5 u51 u52
      u53 u54 u55 u56 u57 u58 u59 u60 u61 u62 u63 u64 u65 u66
      u67 u68 u69 u70 u71 u72 u73 u74 u75 u76 u77 u78 u79 u80
      u81 u82 u83 w5 gei34 gei35 σ wx bQ r1 r2 r3 NQ wF
      PQ wr u8 u20 u91 u92 u93 u94 u95 u96 u97 u98 u99 u100
      u101 u102 u103 u104 u105 u106 u107 u108 u109 u110 u111 u112 u113 u114
      u115 u116 u117 u118 u119 PX OB1 O

    obtain ⟨wy, hwy⟩ : ∃ wy, wy = wr := ⟨_, rfl⟩
    rw [← hwy] at O OB1 PX ⊢
    clear hwy
    go_upto_region 16 with fail
    have X5 := Lib.hid fun wz (hl : Src.Left wb wy wz g a3 n3 cap3 z3) => hl.blk (OB1.out.blk K5.out N5) N5
    have X10 := Lib.hid fun wz (hl : Src.Left wb wy wz g a3 n3 cap3 z3) => hl.blk (OB1.out.blk K10.out N10) N10
    have hw0 : Src.Left wb wy wy.drew g a3 n3 cap3 z3 := (Src.Left.refl O.out.di).drew
    refine wp_region_noPanic ?_
    refine wp_region_any (by kernel_rfl) ?_
    refine Inv.wpAny_inv (fun k => false) [120, 121, 122, 123, 124, 125, 126] (fun w' => Src.Left wb wy w' g a3 n3 cap3 z3) (fun _ w1 w2 => w1.grownBy w2 (some g)) (fun k => ([fun v_ w_ => v_ = .agg #[.int .i64 a1, .int .i64 b1, .int .i64 c1, .int .i64 d1, .int .i64 e1, .int .i64 f1], fun v_ w_ => v_ = .agg #[.int .i64 g1, .int .i64 g2, .int .i64 g3, .int .i64 g4, .int .i64 g5, .int .i64 g6], fun v_ w_ => v_ = .pointer (some ⟨g, 0, none⟩), fun v_ w_ => ∃ t1 t2 t3 t4 t5 t6 : Int, v_ = .agg #[.int .i64 t1, .int .i64 t2, .int .i64 t3, .int .i64 t4, .int .i64 t5, .int .i64 t6], fun v_ w_ => ∃ (h : Nat) (t1 t2 t3 t4 t5 t6 : Int), v_ = .slice (some ⟨h, 0, none⟩) 3 3 ∧ h ≠ g ∧ w_.heap[h]? = some (.cells #[.int .i64 a1, .int .i64 b1, .int .i64 c1, .int .i64 d1, .int .i64 e1, .int .i64 f1, .int .i64 g1, .int .i64 g2, .int .i64 g3, .int .i64 g4, .int .i64 g5, .int .i64 g6, .int .i64 t1, .int .i64 t2, .int .i64 t3, .int .i64 t4, .int .i64 t5, .int .i64 t6] 25 (0, 0)), fun v_ w_ => v_ = .int .i64 3, fun v_ w_ => v_ = .int .i64 0] : List (Value → World → Prop)).getD k (fun _ _ => True)) _ (fun σ => by simp only [Inv.putAll, List.foldl_cons, List.foldl_nil, Act.put, List.setIfInBounds_toArray, List.set_cons_zero, List.set_cons_succ]; rfl) (by kernel_rfl) (by kernel_rfl) ?_ hw0 ?_ ?_ 0 #[true, true, true, true, true, true, true] (by kernel_rfl) (by kernel_rfl) ?_
    · intro j k v w1 w2 hjk hv hr
      rcases k with _ | k
      · exact hv
      rcases k with _ | k
      · exact hv
      rcases k with _ | k
      · exact hv
      rcases k with _ | k
      · exact hv
      rcases k with _ | k
      · exact by obtain ⟨h, y1, y2, y3, y4, y5, y6, h1, h2, h3⟩ := hv; exact ⟨h, y1, y2, y3, y4, y5, y6, h1, h2, (hr.block h (Array.getElem?_eq_some_iff.1 h3).1 (by simpa using h2)).trans h3⟩
      rcases k with _ | k
      · exact hv
      rcases k with _ | k
      · exact hv
      · exact hv
    · intro k t hl hd
      rcases k with _ | k
      · exact absurd hl (by decide +kernel)
      rcases k with _ | k
      · exact absurd hl (by decide +kernel)
      rcases k with _ | k
      · exact absurd hl (by decide +kernel)
      rcases k with _ | k
      · exact absurd hl (by decide +kernel)
      rcases k with _ | k
      · exact absurd hl (by decide +kernel)
      rcases k with _ | k
      · exact absurd hl (by decide +kernel)
      rcases k with _ | k
      · exact absurd hl (by decide +kernel)
      · simp at hd
    · show Inv.Steps _ _ _ _ _ _ _ _ [0, 1, 2, 3, 4, 5, 6]
      refine Inv.Steps.go (by decide) (by rfl) (fun σ wx hw hd K hK => ?_) ?_
      · simp only [List.getElem_toArray, List.getElem_cons_zero, List.getElem_cons_succ, Act.put, List.setIfInBounds_toArray, List.set_cons_zero, List.set_cons_succ] at hK ⊢
        have hx := X5.out _ hw
        refine wp_load_row 25 (.tmp 5) rfl m5 rfl 25 #[.int .i64 a1, .int .i64 b1, .int .i64 c1, .int .i64 d1, .int .i64 e1, .int .i64 f1] (0, 0) _ hx rfl rfl rfl ?_
        simp only [Act.put, List.setIfInBounds_toArray, List.set_cons_zero, List.set_cons_succ]
        exact hK.out _ _ hw (World.grownBy.refl _ _) (rfl)
      refine Inv.Steps.go (by decide) (by rfl) (fun σ wx hw hd K hK => ?_) ?_
      · simp only [List.getElem_toArray, List.getElem_cons_zero, List.getElem_cons_succ, Act.put, List.setIfInBounds_toArray, List.set_cons_zero, List.set_cons_succ] at hK ⊢
        have hx := X10.out _ hw
        refine wp_load_row 25 (.tmp 10) rfl m10 rfl 25 #[.int .i64 g1, .int .i64 g2, .int .i64 g3, .int .i64 g4, .int .i64 g5, .int .i64 g6] (0, 0) _ hx rfl rfl rfl ?_
        simp only [Act.put, List.setIfInBounds_toArray, List.set_cons_zero, List.set_cons_succ]
        exact hK.out _ _ hw (World.grownBy.refl _ _) (rfl)
      refine Inv.Steps.go (by decide) (by rfl) (fun σ wx hw hd K hK => ?_) ?_
      · simp only [List.getElem_toArray, List.getElem_cons_zero, List.getElem_cons_succ, Act.put, List.setIfInBounds_toArray, List.set_cons_zero, List.set_cons_succ] at hK ⊢
        go_simp
        exact hK.out _ _ hw (World.grownBy.refl _ _) (rfl)
      refine Inv.Steps.go (by decide) (by rfl) (fun σ wx hw hd K hK => ?_) ?_
      · obtain e122 : (σ 122) = .pointer (some ⟨g, 0, none⟩) := hd 2 (some 122) (by kernel_rfl) (by rfl)
        simp only [List.getElem_toArray, List.getElem_cons_zero, List.getElem_cons_succ, Act.put, List.setIfInBounds_toArray, List.set_cons_zero, List.set_cons_succ, e122] at hK ⊢
        go_simp
        go_at_call 9
        refine (Src.box_any 40 10 hw.di (by omega) (by omega) (by omega) (by omega)).mono ?_
        rintro e w1 ⟨⟨q1, q2, q3, q4, q5, q6, rfl, _, _, _, _, _, _, _, _, _, _⟩, hl_⟩
        dsimp only
        exact hK.out _ _ (hw.trans hl_) hl_.far (⟨_, _, _, _, _, _, rfl⟩)
      refine Inv.Steps.go (by decide) (by rfl) (fun σ wx hw hd K hK => ?_) ?_
      · obtain e120 : (σ 120) = .agg #[.int .i64 a1, .int .i64 b1, .int .i64 c1, .int .i64 d1, .int .i64 e1, .int .i64 f1] := hd 0 (some 120) (by kernel_rfl) (by rfl)
        obtain e121 : (σ 121) = .agg #[.int .i64 g1, .int .i64 g2, .int .i64 g3, .int .i64 g4, .int .i64 g5, .int .i64 g6] := hd 1 (some 121) (by kernel_rfl) (by rfl)
        obtain ⟨r1, r2, r3, r4, r5, r6, e123⟩ : ∃ t1 t2 t3 t4 t5 t6 : Int, (σ 123) = .agg #[.int .i64 t1, .int .i64 t2, .int .i64 t3, .int .i64 t4, .int .i64 t5, .int .i64 t6] := hd 3 (some 123) (by kernel_rfl) (by rfl)
        simp only [List.getElem_toArray, List.getElem_cons_zero, List.getElem_cons_succ, Act.put, List.setIfInBounds_toArray, List.set_cons_zero, List.set_cons_succ, e120, e121, e123] at hK ⊢
        have hlt := hw.di.lt
        go_simp
        exact hK.out _ _ (hw.below (new_block _)) (Src.Left.far ((Src.Left.refl hw.di).below (new_block _))) (⟨_, _, _, _, _, _, _, rfl, by omega, heap_alloc_new _ _⟩)
      refine Inv.Steps.go (by decide) (by rfl) (fun σ wx hw hd K hK => ?_) ?_
      · obtain ⟨bQ, r1, r2, r3, r4, r5, r6, e124, NQ, PQ⟩ : ∃ (h : Nat) (t1 t2 t3 t4 t5 t6 : Int), (σ 124) = .slice (some ⟨h, 0, none⟩) 3 3 ∧ h ≠ g ∧ wx.heap[h]? = some (.cells #[.int .i64 a1, .int .i64 b1, .int .i64 c1, .int .i64 d1, .int .i64 e1, .int .i64 f1, .int .i64 g1, .int .i64 g2, .int .i64 g3, .int .i64 g4, .int .i64 g5, .int .i64 g6, .int .i64 t1, .int .i64 t2, .int .i64 t3, .int .i64 t4, .int .i64 t5, .int .i64 t6] 25 (0, 0)) := hd 4 (some 124) (by kernel_rfl) (by rfl)
        simp only [List.getElem_toArray, List.getElem_cons_zero, List.getElem_cons_succ, Act.put, List.setIfInBounds_toArray, List.set_cons_zero, List.set_cons_succ, e124] at hK ⊢
        go_simp
        exact hK.out _ _ hw (World.grownBy.refl _ _) (rfl)
      refine Inv.Steps.go (by decide) (by rfl) (fun σ wx hw hd K hK => ?_) ?_
      · simp only [List.getElem_toArray, List.getElem_cons_zero, List.getElem_cons_succ, Act.put, List.setIfInBounds_toArray, List.set_cons_zero, List.set_cons_succ] at hK ⊢
        go_simp
        exact hK.out _ _ hw (World.grownBy.refl _ _) (rfl)
      exact Inv.Steps.nil
    · intro σ wx hw hd
      obtain ⟨bQ, r1, r2, r3, r4, r5, r6, e124, NQ, PQ⟩ : ∃ (h : Nat) (t1 t2 t3 t4 t5 t6 : Int), (σ 124) = .slice (some ⟨h, 0, none⟩) 3 3 ∧ h ≠ g ∧ wx.heap[h]? = some (.cells #[.int .i64 a1, .int .i64 b1, .int .i64 c1, .int .i64 d1, .int .i64 e1, .int .i64 f1, .int .i64 g1, .int .i64 g2, .int .i64 g3, .int .i64 g4, .int .i64 g5, .int .i64 g6, .int .i64 t1, .int .i64 t2, .int .i64 t3, .int .i64 t4, .int .i64 t5, .int .i64 t6] 25 (0, 0)) := hd 4 (some 124) (by rfl) (by rfl)
      obtain e125 : (σ 125) = .int .i64 3 := hd 5 (some 125) (by rfl) (by rfl)
      obtain e126 : (σ 126) = .int .i64 0 := hd 6 (some 126) (by rfl) (by rfl)
      simp only [e124, e125, e126]
      refine Inv.done (by kernel_rfl) (NoPanic.normal ?_)
      have L3 := Lib.hid (Src.Left.refl hw.di)
      obtain ⟨wH, hwH⟩ : ∃ wH, wH = wx := ⟨_, rfl⟩
      replace PX := Lib.hid (hw.blk PX.out NX)
      have OB2 := Lib.hid (OB1.out.trans hw)
      clear hd hw X5 X10 hw0 O OB1 e124 e125 e126
      rw [← hwH] at L3 PQ PX OB2 ⊢
      clear hwH
      have PQ := Lib.hid PQ
      go_wp2_with fail
      go_loopw [126] (fun i wr => ∃ j : Nat, j ≤ 3 ∧ i = .int .i64 j ∧ Hid (Src.Left wb wH wr g a3 n3 cap3 z3)) (fun i _ => (3 - intOf i).toNat)
      case atStart => exact ⟨0, by omega, rfl, L3⟩
      case round =>
        obtain ⟨ji, hji, rfl, O⟩ := hrel
        by_cases hj2 : ji < 3
        · skip
          rename_i gfi0 gfi1 gfi2 gfi3 gfi4 gfi5 gfi6 gfi7 gfi8 gfi9 gfi10 gfi11 gfi12 gfi13 gfi14 gfi15 gfi16 gfi17 gfi18 gfi19 gfi20 gfi21 gfi22 gfi23 gfi24 gfi25 gfi26 gfi27 gfi28 gfi29 gfi30 gfi31 gfi32 gfi33 gfi34
          revert a0 b0 c0 d0 e0 f0 a1 b1 c1 d1 e1 f1 x2 y2 u2 a3 len3 cap3 z3 w AW wb BW gai0 m4 m5 m6 wA n3 g N5 N6 gci0 g1 g2 g3 g4 g5 g6 gai1 gai2 gai3 gai4 gai5 gai6 gai7 gai8 gai9 gai10 gai11 gai12 gci1 m10 N10 gei0 gei1 bP t1 t2 t3 t4 t5 t6 NP wE gai15 L1 K5 K6 K10 PE gei2 gei3 u12 u13 u14 u15 u16 u17 u18 gei4 gfi0 u36 u37 u38 u39 u40 u41 u42 u43 u44 u45 u46 u47 u48 u49 u50 gci2 gci3 gci4 gci5 gci6 gci7 gci8 gci9 gci10 gci11 gci12 gci13 gci14 gci15 gci16 gci17 gci18 gci19 gci20 gci21 gci22 gci23 gci24 gci25 gci26 gci27 gci28 gci29 gci30 gci31 gci32 gci33 gci34 u84 u85 u86 u87 u88 u89 u90 gei5 gei6 gei7 gei8 gei9 gei10 gei11 gei12 gei13 gei14 gei15 gei16 gei17 gei18 gei19 gei20 gei21 gei22 gei23 gei24 gei25 gei26 gei27 gei28 gei29 gei30 gei31 gei32 gei33 u120 u121 u122 u123 u124 u125 u126 gfi1 gfi2 gfi3 gfi4 gfi5 gfi6 gfi7 gfi8 gfi9 gfi10 gfi11 gfi12 gfi13 gfi14 gfi15 gfi16 gfi17 gfi18 gfi19 gfi20 u147 jo hjo hj4 x1 x2_ x3 x4 x5 x6 bjo gbi0 gbi1 gbi2 wB bX NX p1 p2 p3 p4 p5 p6 q1 q2 q3 q4 q5 q6 ok w1 w2 s1 s2 w3 w4 s3 s4 v1 v2 v3 v4 v5 u51 u52 u53 u54 u55 u56 u57 u58 u59 u60 u61 u62 u63 u64 u65 u66 u67 u68 u69 u70 u71 u72 u73 u74 u75 u76 u77 u78 u79 u80 u81 u82 u83 w5 gei34 gfi21 gfi22 gfi23 gfi24 gfi25 gfi26 gfi27 wF gfi28 gfi29 gfi30 u20 u91 u92 u93 u94 u95 u96 u97 u98 u99 u100 u101 u102 u103 u104 u105 u106 u107 u108 u109 u110 u111 u112 u113 u114 u115 u116 u117 u118 u119 wy gfi31 gfi32 gfi33 σ wx bQ r1 r2 r3 r4 r5 r6 NQ wH gfi34 L3 PX OB2 PQ wr u8 u22 u127 u128 u129 u130 u131 u132 u133 u134 u135 u136 u137 u138 u139 u140 u141 u142 u143 u144 u145 u146 ji hji O hj2
          exact hck_gf.out
        · obtain rfl : ji = 3 := by omega
          replace OB2 := Lib.hid (OB2.out.trans O.out)
          clear L3 PQ hj2 hji
          go_wp2_with fail
          go_roundw
          case rel => exact ⟨jo + 1, by omega, by go_num, OB2⟩
          case measure => simp [intOf]; omega
set_option maxHeartbeats 16000000 in
set_option maxRecDepth 100000 in
theorem ck_gf : ck_ge.1 := by
  intro a0 b0 c0 d0 e0 f0 a1 b1 c1 d1 e1 f1 x2 y2
    u2 a3 len3 cap3 z3 w AW wb BW gai0 m4 m5 m6 wA
    n3 g N5 N6 gci0 g1 g2 g3 g4 g5 g6 gai1 gai2 gai3
    gai4 gai5 gai6 gai7 gai8 gai9 gai10 gai11 gai12 gci1 m10 N10 gei0 gei1
    bP t1 t2 t3 t4 t5 t6 NP wE gai15 L1 K5 K6 K10
    PE gei2 gei3 u12 u13 u14 u15 u16 u17 u18 gei4 gfi0 u36 u37
    u38 u39 u40 u41 u42 u43 u44 u45 u46 u47 u48 u49 u50 gci2
    gci3 gci4 gci5 gci6 gci7 gci8 gci9 gci10 gci11 gci12 gci13 gci14 gci15 gci16
    gci17 gci18 gci19 gci20 gci21 gci22 gci23 gci24 gci25 gci26 gci27 gci28 gci29 gci30
    gci31 gci32 gci33 gci34 u84 u85 u86 u87 u88 u89 u90 gei5 gei6 gei7
    gei8 gei9 gei10 gei11 gei12 gei13 gei14 gei15 gei16 gei17 gei18 gei19 gei20 gei21
    gei22 gei23 gei24 gei25 gei26 gei27 gei28 gei29 gei30 gei31 gei32 gei33 u120 u121
    u122 u123 u124 u125 u126 gfi1 gfi2 gfi3 gfi4 gfi5 gfi6 gfi7 gfi8 gfi9
    gfi10 gfi11 gfi12 gfi13 gfi14 gfi15 gfi16 gfi17 gfi18 gfi19 gfi20 u147 jo hjo
    hj4 x1 x2_ x3 x4 x5 x6 bjo gbi0 gbi1 gbi2 wB bX NX
    p1 p2 p3 p4 p5 p6 q1 q2 q3 q4 q5 q6 ok w1
    w2 s1 s2 w3 w4 s3 s4 v1 v2 v3 v4 v5 u51 u52
    u53 u54 u55 u56 u57 u58 u59 u60 u61 u62 u63 u64 u65 u66
    u67 u68 u69 u70 u71 u72 u73 u74 u75 u76 u77 u78 u79 u80
    u81 u82 u83 w5 gei34 gfi21 gfi22 gfi23 gfi24 gfi25 gfi26 gfi27 wF gfi28
    gfi29 gfi30 u20 u91 u92 u93 u94 u95 u96 u97 u98 u99 u100 u101
    u102 u103 u104 u105 u106 u107 u108 u109 u110 u111 u112 u113 u114 u115
    u116 u117 u118 u119 wy gfi31 gfi32 gfi33 σ wx bQ r1 r2 r3
    r4 r5 r6 NQ wH gfi34 L3 PX OB2 PQ wr u8 u22 u127
    u128 u129 u130 u131 u132 u133 u134 u135 u136 u137 u138 u139 u140 u141
    u142 u143 u144 u145 u146 ji hji O hj2

  have PW := O.out.blk PQ.out NQ
  obtain ⟨f1_, f2, f3, f4, f5, f6, cp0, cp1, cp2, cp3, cp4, cp5⟩ : ∃ f1_ f2 f3 f4 f5 f6 : Int, wr.cell? ⟨bQ, ji * 6, none⟩ = some (.int .i64 f1_) ∧ wr.cell? ⟨bQ, ji * 6 + 1, none⟩ = some (.int .i64 f2) ∧ wr.cell? ⟨bQ, ji * 6 + 2, none⟩ = some (.int .i64 f3) ∧ wr.cell? ⟨bQ, ji * 6 + 3, none⟩ = some (.int .i64 f4) ∧ wr.cell? ⟨bQ, ji * 6 + 4, none⟩ = some (.int .i64 f5) ∧ wr.cell? ⟨bQ, ji * 6 + 5, none⟩ = some (.int .i64 f6) := by
    rcases (show ji = 0 ∨ ji = 1 ∨ ji = 2 by omega) with rfl | rfl | rfl
    · exact ⟨_, _, _, _, _, _, cell_of_row wr bQ 0 _ _ _ PW, cell_of_row wr bQ 1 _ _ _ PW, cell_of_row wr bQ 2 _ _ _ PW, cell_of_row wr bQ 3 _ _ _ PW, cell_of_row wr bQ 4 _ _ _ PW, cell_of_row wr bQ 5 _ _ _ PW⟩
    · exact ⟨_, _, _, _, _, _, cell_of_row wr bQ 6 _ _ _ PW, cell_of_row wr bQ 7 _ _ _ PW, cell_of_row wr bQ 8 _ _ _ PW, cell_of_row wr bQ 9 _ _ _ PW, cell_of_row wr bQ 10 _ _ _ PW, cell_of_row wr bQ 11 _ _ _ PW⟩
    · exact ⟨_, _, _, _, _, _, cell_of_row wr bQ 12 _ _ _ PW, cell_of_row wr bQ 13 _ _ _ PW, cell_of_row wr bQ 14 _ _ _ PW, cell_of_row wr bQ 15 _ _ _ PW, cell_of_row wr bQ 16 _ _ _ PW, cell_of_row wr bQ 17 _ _ _ PW⟩
  have bji : (ji : Int) < 3 := by omega
  clear PW
  go_upto_region 19 with fail
  obtain ⟨wG, hwG⟩ : ∃ wz, wz = wr.alloc (.cells #[.int .i64 f1_, .int .i64 f2, .int .i64 f3, .int .i64 f4, .int .i64 f5, .int .i64 f6] 25) := ⟨_, rfl⟩
  obtain ⟨bY, hbY⟩ : ∃ bz, bz = wr.heap.size := ⟨_, rfl⟩
  have hb : Below wr.heap.size wr wG := by rw [hwG]; exact new_block _
  have PY := Lib.hid (show wG.heap[bY]? = some (.cells #[.int .i64 f1_, .int .i64 f2, .int .i64 f3, .int .i64 f4, .int .i64 f5, .int .i64 f6] 25 (0, 0)) by rw [hwG, hbY]; exact heap_alloc_new wr _)
  have O3 := Lib.hid (O.out.below hb)
  have PX3 := Lib.hid (hop hb (O.out.blk PX.out NX))
  rw [← hwG, ← hbY]
  clear hwG hbY hb
  clear O cp0 cp1 cp2 cp3 cp4 cp5
  obtain ⟨v1, VA, VB⟩ := Geo.within_same x1 x2_ x3 x4 x5 x6 f1_ f2 f3 f4 f5 f6
  replace VA := Lib.hid VA
  replace VB := Lib.hid VB
  obtain ⟨y1, y2_, y3, y4, y5, y6, PA, PB⟩ := Geo.hull_same x1 x2_ x3 x4 x5 x6 f1_ f2 f3 f4 f5 f6
  replace PA := Lib.hid PA
  replace PB := Lib.hid PB
  have d1 : (v1 != v1) = false := by simp
  have n2 := box_neq y1 y2_ y3 y4 y5 y6
  go_cut [145] from 130 to 144 (fun s wx => s = .bool false ∧ ∃ wz, wz = wx ∧ Hid (Below wG.heap.size wG wz))
  case first =>
    refine Buf.region_calm wG (by kernel_rfl) (by kernel_rfl) (Below.refl _ _) ?_
    repeat (first
      | (go_big_quiet_want; refine quiet_row 25 (.tmp 12) rfl bX rfl 25 #[.int .i64 x1, .int .i64 x2_, .int .i64 x3, .int .i64 x4, .int .i64 x5, .int .i64 x6] (0, 0) _ (fun _ hC => hop hC PX3.out) rfl rfl rfl ?_; go_big_quiet_on; try simp only [Act.put, List.setIfInBounds_toArray, List.set_cons_zero, List.set_cons_succ])
      | (go_big_quiet_want; refine quiet_row 25 (.tmp 22) rfl bY rfl 25 #[.int .i64 f1_, .int .i64 f2, .int .i64 f3, .int .i64 f4, .int .i64 f5, .int .i64 f6] (0, 0) _ (fun _ hC => hop hC PY.out) rfl rfl rfl ?_; go_big_quiet_on; try simp only [Act.put, List.setIfInBounds_toArray, List.set_cons_zero, List.set_cons_succ])
      | go_big_quiet_step ((intro hC; first
         | (go_at_call 26; with_reducible exact Buf.calm hC (VA.out _))
         | (go_at_call 27; with_reducible exact Buf.calm hC (VB.out _))
         | (go_at_call 28; with_reducible exact Buf.calm hC (PA.out _))
         | (go_at_call 29; with_reducible exact Buf.calm hC (PB.out _))
         | rfl)))
    refine wpQuiet_nil ?_
    intro w8 hb
    go_wp2_with fail
    go_meet
    exact ⟨rfl, _, rfl, Lib.hid hb⟩
  case rest =>
    obtain ⟨rfl, wz, rfl, hbb⟩ := hcut
    have O4 := Lib.hid (O3.out.below hbb.out)
    clear VA VB PA PB d1 n2 hbb O3
    go_wp2_with fail
    go_roundw
    case rel => exact ⟨ji + 1, by omega, by go_num, O4⟩
    case measure => simp [intOf]; omega
set_option maxHeartbeats 16000000 in
set_option maxRecDepth 100000 in
theorem ck_gz : ck_ga.2.1 := by
  intro a0 b0 c0 d0 e0 f0 a1 b1 c1 d1 e1 f1 x2 y2
    u2 a3 len3 cap3 z3 w AW wb BW gai0 m4 m5 m6 wA
    n3 g N5 N6 w1 g1 g2 g3 g4 g5 g6 gai1 gai2 gai3
    gai4 gai5 gai6 gai7 gai8 gai9 gai10 gai11 gai12 w2 m10 N10 σ wx
    bP t1 t2 t3 t4 t5 t6 NP wE gai15 L1 K5 K6 K10
    PE wr u8 u12 u13 u14 u15 u16 u17 u18 u20 u22 u36 u37
    u38 u39 u40 u41 u42 u43 u44 u45 u46 u47 u48 u49 u50 u51
    u52 u53 u54 u55 u56 u57 u58 u59 u60 u61 u62 u63 u64 u65
    u66 u67 u68 u69 u70 u71 u72 u73 u74 u75 u76 u77 u78 u79
    u80 u81 u82 u83 u84 u85 u86 u87 u88 u89 u90 u91 u92 u93
    u94 u95 u96 u97 u98 u99 u100 u101 u102 u103 u104 u105 u106 u107
    u108 u109 u110 u111 u112 u113 u114 u115 u116 u117 u118 u119 u120 u121
    u122 u123 u124 u125 u126 u127 u128 u129 u130 u131 u132 u133 u134 u135
    u136 u137 u138 u139 u140 u141 u142 u143 u144 u145 u146 u147 O hjo
    hj4

  have BZ := Lib.hid (Buf.then_ BW.out O.out.di.bel)
  clear O PE NP
  go_wp2_with fail
  with_reducible refine (AW.out _).mono ?_
  rintro e1 w9 ⟨rfl, hb⟩
  go_wp2_with fail
  go_ret
  exact ⟨rfl, Buf.then_ BZ.out hb⟩
theorem geometryBoxes_walk (a0 b0 c0 d0 e0 f0 a1 b1 c1 d1 e1 f1 x2 y2 u2 : Int) (a3 : Option Addr) (len3 cap3 : Nat) (z3 : List Int) (w : World) (w3 : Buf.IsRow .i64 w a3 len3 cap3 z3) :
    Calls Try.prog 3 #[.agg #[.int .i64 a0, .int .i64 b0, .int .i64 c0, .int .i64 d0, .int .i64 e0, .int .i64 f0], .agg #[.int .i64 a1, .int .i64 b1, .int .i64 c1, .int .i64 d1, .int .i64 e1, .int .i64 f1], .agg #[.int .i64 x2, .int .i64 y2, .int .i64 u2], .slice a3 len3 cap3] w fun e w' => e = .returned (.bool true) ∧ Below w.heap.size w w' :=
  (ck_root.2 ⟨(ck_ga.2.2 ⟨(ck_gb.2 ⟨(ck_gc.2.2 ⟨ck_gd⟩ ⟨(ck_ge.2 ⟨ck_gf⟩)⟩)⟩)⟩ ⟨ck_gz⟩)⟩) a0 b0 c0 d0 e0 f0 a1 b1 c1 d1 e1 f1 x2 y2 u2 a3 len3 cap3 z3 w w3
end Laws
end Go.Proofs.Ytklgnbimfobgkaa
