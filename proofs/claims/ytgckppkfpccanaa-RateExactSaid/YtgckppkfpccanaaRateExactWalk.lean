/- The walk of RateExact. -/
import Derived.Test.YtgckppkfpccanaaRxE
import Derived.Test.YtgckppkfpccanaaInv
import Derived.RegionTactic
import Derived.Deep.RegionHeld3
import Derived.Deep.CutBlock
import Derived.Deep.DeepCutAuto
set_option linter.unusedVariables false
set_option linter.unusedSimpArgs false
namespace Go.Proofs.Ytgckppkfpccanaa
open Go.RowKit Dice
namespace Laws
open Rate
theorem row_keep {w w' : World} {a : Option Addr} {len cap : Nat} {zs : List Int} (h : Buf.IsRow .i64 w a len cap zs) (hb : Below w.heap.size w w') : Buf.IsRow .i64 w' a len cap zs := by
  rcases h with h | ⟨x, e, h1, h2, h3, h4, h5⟩
  · exact .inl h
  · exact .inr ⟨x, e, h1, h2, h3, fun i hi => by
      have h := h4 i hi
      exact (hb.cell (Nat.lt_of_not_le fun hh => by unfold World.cell? at h; rw [Array.getElem?_eq_none hh] at h; cases h)).trans h, h5⟩
theorem cells2 {w : World} {b : Nat} {x y : Value} {t : TypeId} (h : w.heap[b]? = some (.cells #[x, y] t (0, 0))) : w.cell? ⟨b, 0, none⟩ = some x ∧ w.cell? ⟨b, 1, none⟩ = some y :=
  ⟨cell_of_row w b 0 _ _ _ h, cell_of_row w b 1 _ _ _ h⟩
theorem hop {w w' : World} {b : Nat} {o : Obj} (hb : Below w.heap.size w w') (h : w.heap[b]? = some o) : w'.heap[b]? = some o := by
  rw [hb.block b (Array.getElem?_eq_some_iff.1 h).1]; exact h
theorem far {W w w' : World} {g b : Nat} {a : Option Addr} {len cap : Nat} {zs : List Int} {o : Obj} (hl : Dice.Left W w w' g a len cap zs) (hg : b ≠ g) (h : w.heap[b]? = some o) : w'.heap[b]? = some o :=
  (hl.far.block b (Array.getElem?_eq_some_iff.1 h).1 (by simpa using hg)).trans h
set_option maxHeartbeats 16000000 in
set_option maxRecDepth 100000 in
theorem rateExact_walk (a0 : Option Addr) (len0 cap0 : Nat) (z0 : List Int) (rn rd st kx xx fx : Int) (w : World) (w0 : Buf.IsRow .i64 w a0 len0 cap0 z0) (p1 : (Lit.int .i64 rn).wf = true) (q1 : (Lit.int .i64 rd).wf = true) (w2 : (Lit.int .i64 st).wf = true) (w3 : (Lit.int .i64 kx).wf = true) (w4 : (Lit.int .i64 xx).wf = true) (w5 : (Lit.int .i64 fx).wf = true) :
    Calls Try.prog 3 #[.slice a0 len0 cap0, .agg #[.int .i64 rn, .int .i64 rd], .int .i64 st, .int .i64 kx, .int .i64 xx, .int .i64 fx] w fun e w' => e = .returned (.bool true) ∧ Below w.heap.size w w' := by
  have SN := Lib.hid sane_any
  clear p1 q1 w2 w3 w4 w5
  go_enter Try.func3, Try.ntmps3
  obtain ⟨wb, hwb⟩ : ∃ wb, wb = w.alloc (.cells #[.int .i64 rn, .int .i64 rd] 24) := ⟨_, rfl⟩
  obtain ⟨b7, hb7⟩ : ∃ b7, b7 = w.heap.size := ⟨_, rfl⟩
  have B0 := Lib.hid (show Below w.heap.size w wb by rw [hwb]; exact new_block _)
  have P7 := Lib.hid (show wb.heap[b7]? = some (.cells #[.int .i64 rn, .int .i64 rd] 24 (0, 0)) by rw [hwb, hb7]; exact heap_alloc_new w _)
  go_upto_region 1 with fail
  rw [← hwb, ← hb7]
  have hb7' : b7 < wb.heap.size := (Array.getElem?_eq_some_iff.1 P7.out).1
  clear hwb hb7
  by_cases hs : len0 ≤ 500
  · have hd : decide ((len0 : Int) ≤ 500) = true := by simp; omega
    go_upto_region 3 with (go_at_call 6; refine (light_any _ _ _ _).mono ?_; rintro e w1 ⟨rfl, hw⟩; replace hw := hw.symm; subst hw; rw [hd])
    go_wp2_with fail
    refine (roll_any a0 len0 cap0 z0 _ (row_keep w0 B0.out) hs).mono ?_
    rintro e wd ⟨rfl, hdi⟩
    obtain ⟨g, hdd⟩ : ∃ g, g = wb.heap.size := ⟨_, rfl⟩
    rw [← hdd] at hdi hb7' ⊢
    have P7d := hop hdi.bel P7.out
    clear hdd P7
    go_wp2_with fail
    refine (rate_any hdi).mono ?_
    rintro e wc ⟨⟨n, d, rfl, _⟩, hl⟩
    have P7c := Lib.hid (far hl (Nat.ne_of_lt hb7') P7d)
    have D0 := Lib.hid hl.di
    clear hl hdi P7d hd
    go_upto_region 5 with fail
    obtain ⟨wA, hwA⟩ : ∃ wA, wA = wc.alloc (.cells #[.int .i64 n, .int .i64 d] 24) := ⟨_, rfl⟩
    obtain ⟨b14, hb14⟩ : ∃ b14, b14 = wc.heap.size := ⟨_, rfl⟩
    have BA : Below wc.heap.size wc wA := by rw [hwA]; exact new_block _
    have P14 := Lib.hid (show wA.heap[b14]? = some (.cells #[.int .i64 n, .int .i64 d] 24 (0, 0)) by rw [hwA, hb14]; exact heap_alloc_new wc _)
    have N14 : b14 ≠ g := by have := D0.out.lt; omega
    have N7 : b7 ≠ g := Nat.ne_of_lt hb7'
    have P7 := Lib.hid (hop BA P7c.out)
    replace D0 := Lib.hid (D0.out.below BA)
    rw [← hwA, ← hb14]
    clear hwA hb14 BA P7c hb7'
    have X7 := Lib.hid fun wz (hl : Dice.Left wb wA wz g a0 len0 cap0 z0) => far hl N7 P7.out
    have X14 := Lib.hid fun wz (hl : Dice.Left wb wA wz g a0 len0 cap0 z0) => far hl N14 P14.out
    have hw0 : Dice.Left wb wA wA.drew g a0 len0 cap0 z0 := (Dice.Left.refl D0.out).below (Below.refl _ _).drew
    clear P7 P14 N7 N14
    refine wp_region_noPanic ?_
    refine wp_region_any (by kernel_rfl) ?_
    refine Inv.wpAny_inv (fun k => false) [71, 72, 73, 74, 75, 76, 77, 78, 79, 80, 81, 82] (fun w' => Dice.Left wb wA w' g a0 len0 cap0 z0) (fun _ w1 w2 => w1.grownBy w2 (some g)) (fun k => ([fun v_ w_ => v_ = .agg #[.int .i64 n, .int .i64 d], fun v_ w_ => v_ = .agg #[.int .i64 rn, .int .i64 rd], fun v_ w_ => v_ = .pointer (some ⟨g, 0, none⟩), fun v_ w_ => ∃ h : Nat, v_ = .slice (some ⟨h, 0, none⟩) 3 3 ∧ h ≠ g ∧ h < w_.heap.size ∧ Ints w_ h [2, 4097, 0], fun v_ w_ => ∃ y : Int, v_ = .int .i64 y, fun v_ w_ => v_ = .pointer (some ⟨g, 0, none⟩), fun v_ w_ => ∃ h : Nat, v_ = .slice (some ⟨h, 0, none⟩) 2 2 ∧ h ≠ g ∧ h < w_.heap.size ∧ Ints w_ h [4, 1], fun v_ w_ => ∃ y : Int, v_ = .int .i64 y, fun v_ w_ => ∃ x y : Int, v_ = .agg #[.int .i64 x, .int .i64 y], fun v_ w_ => ∃ (h : Nat) (x y : Int), v_ = .slice (some ⟨h, 0, none⟩) 3 3 ∧ h ≠ g ∧ w_.heap[h]? = some (.cells #[.int .i64 n, .int .i64 d, .int .i64 rn, .int .i64 rd, .int .i64 x, .int .i64 y] 24 (0, 0)), fun v_ w_ => v_ = .int .i64 3, fun v_ w_ => v_ = .int .i64 0] : List (Value → World → Prop)).getD k (fun _ _ => True)) _ (fun σ => by simp only [Inv.putAll, List.foldl_cons, List.foldl_nil, Act.put, List.setIfInBounds_toArray, List.set_cons_zero, List.set_cons_succ]; rfl) (by kernel_rfl) (by kernel_rfl) ?_ hw0 ?_ ?_ 0 #[true, true, true, true, true, true, true, true, true, true, true, true] (by kernel_rfl) (by kernel_rfl) ?_
    · intro j k v w1 w2 hjk hv hr
      rcases k with _ | k
      · exact hv
      rcases k with _ | k
      · exact hv
      rcases k with _ | k
      · exact hv
      rcases k with _ | k
      · exact by obtain ⟨h, h1, h2, h3, h4⟩ := hv; exact ⟨h, h1, h2, Nat.lt_of_lt_of_le h3 hr.size, fun j hj => (World.cell?_of_block (a := ⟨h, j, none⟩) (hr.block h h3 (by simpa using h2))).trans (h4 j hj)⟩
      rcases k with _ | k
      · exact hv
      rcases k with _ | k
      · exact hv
      rcases k with _ | k
      · exact by obtain ⟨h, h1, h2, h3, h4⟩ := hv; exact ⟨h, h1, h2, Nat.lt_of_lt_of_le h3 hr.size, fun j hj => (World.cell?_of_block (a := ⟨h, j, none⟩) (hr.block h h3 (by simpa using h2))).trans (h4 j hj)⟩
      rcases k with _ | k
      · exact hv
      rcases k with _ | k
      · exact hv
      rcases k with _ | k
      · exact by obtain ⟨h, x, y, h1, h2, h3⟩ := hv; exact ⟨h, x, y, h1, h2, (hr.block h (Array.getElem?_eq_some_iff.1 h3).1 (by simpa using h2)).trans h3⟩
      rcases k with _ | k
      · exact hv
      rcases k with _ | k
      · exact hv
      · exact hv
    · intro k t hl hd
      rcases k with _ | k
      · exact absurd hl (by decide +kernel)
      rcases k with _ | k
      · exact absurd hl (by decide +kernel)
      rcases k with _ | k
      · exact absurd hl (by decide +kernel)
      rcases k with _ | k
      · exact absurd hl (by decide +kernel)
      rcases k with _ | k
      · exact absurd hl (by decide +kernel)
      rcases k with _ | k
      · exact absurd hl (by decide +kernel)
      rcases k with _ | k
      · exact absurd hl (by decide +kernel)
      rcases k with _ | k
      · exact absurd hl (by decide +kernel)
      rcases k with _ | k
      · exact absurd hl (by decide +kernel)
      rcases k with _ | k
      · exact absurd hl (by decide +kernel)
      rcases k with _ | k
      · exact absurd hl (by decide +kernel)
      rcases k with _ | k
      · exact absurd hl (by decide +kernel)
      · simp at hd
    · show Inv.Steps _ _ _ _ _ _ _ _ [0, 1, 2, 3, 4, 5, 6, 7, 8, 9, 10, 11]
      refine Inv.Steps.go (by decide) (by rfl) (fun σ wx hw hd K hK => ?_) ?_
      · simp only [List.getElem_toArray, List.getElem_cons_zero, List.getElem_cons_succ, Act.put, List.setIfInBounds_toArray, List.set_cons_zero, List.set_cons_succ] at hK ⊢
        have hx := X14.out _ hw
        refine wp_load_row 24 (.tmp 14) rfl b14 rfl 24 #[.int .i64 n, .int .i64 d] (0, 0) _ hx rfl rfl rfl ?_
        simp only [Act.put, List.setIfInBounds_toArray, List.set_cons_zero, List.set_cons_succ]
        exact hK.out _ _ hw (World.grownBy.refl _ _) (rfl)
      refine Inv.Steps.go (by decide) (by rfl) (fun σ wx hw hd K hK => ?_) ?_
      · simp only [List.getElem_toArray, List.getElem_cons_zero, List.getElem_cons_succ, Act.put, List.setIfInBounds_toArray, List.set_cons_zero, List.set_cons_succ] at hK ⊢
        have hx := X7.out _ hw
        refine wp_load_row 24 (.tmp 7) rfl b7 rfl 24 #[.int .i64 rn, .int .i64 rd] (0, 0) _ hx rfl rfl rfl ?_
        simp only [Act.put, List.setIfInBounds_toArray, List.set_cons_zero, List.set_cons_succ]
        exact hK.out _ _ hw (World.grownBy.refl _ _) (rfl)
      refine Inv.Steps.go (by decide) (by rfl) (fun σ wx hw hd K hK => ?_) ?_
      · simp only [List.getElem_toArray, List.getElem_cons_zero, List.getElem_cons_succ, Act.put, List.setIfInBounds_toArray, List.set_cons_zero, List.set_cons_succ] at hK ⊢
        go_simp
        exact hK.out _ _ hw (World.grownBy.refl _ _) (rfl)
      refine Inv.Steps.go (by decide) (by rfl) (fun σ wx hw hd K hK => ?_) ?_
      · simp only [List.getElem_toArray, List.getElem_cons_zero, List.getElem_cons_succ, Act.put, List.setIfInBounds_toArray, List.set_cons_zero, List.set_cons_succ] at hK ⊢
        have hlt := hw.di.lt
        go_simp
        exact hK.out _ _ (hw.below (new_block _)) (Dice.Left.far ((Dice.Left.refl hw.di).below (new_block _))) (⟨_, rfl, by omega, by simp, ints_alloc wx [2, 4097, 0] 3⟩)
      refine Inv.Steps.go (by decide) (by rfl) (fun σ wx hw hd K hK => ?_) ?_
      · obtain e73 : (σ 73) = .pointer (some ⟨g, 0, none⟩) := hd 2 (some 73) (by kernel_rfl) (by rfl)
        obtain ⟨h74, e74, hn74, hs74, hi74⟩ : ∃ h : Nat, (σ 74) = .slice (some ⟨h, 0, none⟩) 3 3 ∧ h ≠ g ∧ h < wx.heap.size ∧ Ints wx h [2, 4097, 0] := hd 3 (some 74) (by kernel_rfl) (by rfl)
        simp only [List.getElem_toArray, List.getElem_cons_zero, List.getElem_cons_succ, Act.put, List.setIfInBounds_toArray, List.set_cons_zero, List.set_cons_succ, e73, e74] at hK ⊢
        go_simp
        go_at_call 10
        refine (pick_any h74 [2, 4097, 0] 3 3 hw.di hi74 rfl (by omega) (by omega) hn74 hs74).mono ?_
        rintro e w1 ⟨⟨y_, rfl, _⟩, hl_⟩
        dsimp only
        exact hK.out _ _ (hw.trans hl_) hl_.far (⟨y_, rfl⟩)
      refine Inv.Steps.go (by decide) (by rfl) (fun σ wx hw hd K hK => ?_) ?_
      · simp only [List.getElem_toArray, List.getElem_cons_zero, List.getElem_cons_succ, Act.put, List.setIfInBounds_toArray, List.set_cons_zero, List.set_cons_succ] at hK ⊢
        go_simp
        exact hK.out _ _ hw (World.grownBy.refl _ _) (rfl)
      refine Inv.Steps.go (by decide) (by rfl) (fun σ wx hw hd K hK => ?_) ?_
      · simp only [List.getElem_toArray, List.getElem_cons_zero, List.getElem_cons_succ, Act.put, List.setIfInBounds_toArray, List.set_cons_zero, List.set_cons_succ] at hK ⊢
        have hlt := hw.di.lt
        go_simp
        exact hK.out _ _ (hw.below (new_block _)) (Dice.Left.far ((Dice.Left.refl hw.di).below (new_block _))) (⟨_, rfl, by omega, by simp, ints_alloc wx [4, 1] 3⟩)
      refine Inv.Steps.go (by decide) (by rfl) (fun σ wx hw hd K hK => ?_) ?_
      · obtain e76 : (σ 76) = .pointer (some ⟨g, 0, none⟩) := hd 5 (some 76) (by kernel_rfl) (by rfl)
        obtain ⟨h77, e77, hn77, hs77, hi77⟩ : ∃ h : Nat, (σ 77) = .slice (some ⟨h, 0, none⟩) 2 2 ∧ h ≠ g ∧ h < wx.heap.size ∧ Ints wx h [4, 1] := hd 6 (some 77) (by kernel_rfl) (by rfl)
        simp only [List.getElem_toArray, List.getElem_cons_zero, List.getElem_cons_succ, Act.put, List.setIfInBounds_toArray, List.set_cons_zero, List.set_cons_succ, e76, e77] at hK ⊢
        go_simp
        go_at_call 10
        refine (pick_any h77 [4, 1] 2 2 hw.di hi77 rfl (by omega) (by omega) hn77 hs77).mono ?_
        rintro e w1 ⟨⟨y_, rfl, _⟩, hl_⟩
        dsimp only
        exact hK.out _ _ (hw.trans hl_) hl_.far (⟨y_, rfl⟩)
      refine Inv.Steps.go (by decide) (by rfl) (fun σ wx hw hd K hK => ?_) ?_
      · obtain ⟨y75, e75⟩ : ∃ y : Int, (σ 75) = .int .i64 y := hd 4 (some 75) (by kernel_rfl) (by rfl)
        obtain ⟨y78, e78⟩ : ∃ y : Int, (σ 78) = .int .i64 y := hd 7 (some 78) (by kernel_rfl) (by rfl)
        simp only [List.getElem_toArray, List.getElem_cons_zero, List.getElem_cons_succ, Act.put, List.setIfInBounds_toArray, List.set_cons_zero, List.set_cons_succ, e75, e78] at hK ⊢
        go_simp
        exact hK.out _ _ hw (World.grownBy.refl _ _) (⟨_, _, rfl⟩)
      refine Inv.Steps.go (by decide) (by rfl) (fun σ wx hw hd K hK => ?_) ?_
      · obtain e71 : (σ 71) = .agg #[.int .i64 n, .int .i64 d] := hd 0 (some 71) (by kernel_rfl) (by rfl)
        obtain e72 : (σ 72) = .agg #[.int .i64 rn, .int .i64 rd] := hd 1 (some 72) (by kernel_rfl) (by rfl)
        obtain ⟨y1, y2, e79⟩ : ∃ x y : Int, (σ 79) = .agg #[.int .i64 x, .int .i64 y] := hd 8 (some 79) (by kernel_rfl) (by rfl)
        simp only [List.getElem_toArray, List.getElem_cons_zero, List.getElem_cons_succ, Act.put, List.setIfInBounds_toArray, List.set_cons_zero, List.set_cons_succ, e71, e72, e79] at hK ⊢
        have hlt := hw.di.lt
        go_simp
        exact hK.out _ _ (hw.below (new_block _)) (Dice.Left.far ((Dice.Left.refl hw.di).below (new_block _))) (⟨_, _, _, rfl, by omega, heap_alloc_new _ _⟩)
      refine Inv.Steps.go (by decide) (by rfl) (fun σ wx hw hd K hK => ?_) ?_
      · obtain ⟨bP, yn, yd, e80, NP, PE⟩ : ∃ (h : Nat) (x y : Int), (σ 80) = .slice (some ⟨h, 0, none⟩) 3 3 ∧ h ≠ g ∧ wx.heap[h]? = some (.cells #[.int .i64 n, .int .i64 d, .int .i64 rn, .int .i64 rd, .int .i64 x, .int .i64 y] 24 (0, 0)) := hd 9 (some 80) (by kernel_rfl) (by rfl)
        simp only [List.getElem_toArray, List.getElem_cons_zero, List.getElem_cons_succ, Act.put, List.setIfInBounds_toArray, List.set_cons_zero, List.set_cons_succ, e80] at hK ⊢
        go_simp
        exact hK.out _ _ hw (World.grownBy.refl _ _) (rfl)
      refine Inv.Steps.go (by decide) (by rfl) (fun σ wx hw hd K hK => ?_) ?_
      · simp only [List.getElem_toArray, List.getElem_cons_zero, List.getElem_cons_succ, Act.put, List.setIfInBounds_toArray, List.set_cons_zero, List.set_cons_succ] at hK ⊢
        go_simp
        exact hK.out _ _ hw (World.grownBy.refl _ _) (rfl)
      exact Inv.Steps.nil
    · intro σ wx hw hd
      obtain ⟨bP, yn, yd, e80, NP, PE⟩ : ∃ (h : Nat) (x y : Int), (σ 80) = .slice (some ⟨h, 0, none⟩) 3 3 ∧ h ≠ g ∧ wx.heap[h]? = some (.cells #[.int .i64 n, .int .i64 d, .int .i64 rn, .int .i64 rd, .int .i64 x, .int .i64 y] 24 (0, 0)) := hd 9 (some 80) (by rfl) (by rfl)
      have e81 : (σ 81) = .int .i64 3 := hd 10 (some 81) (by rfl) (by rfl)
      have e82 : (σ 82) = .int .i64 0 := hd 11 (some 82) (by rfl) (by rfl)
      simp only [e80, e81, e82]
      clear e80 e81 e82
      refine Inv.done (by kernel_rfl) (NoPanic.normal ?_)
      have D1 := Lib.hid hw.di
      clear hd hw X7 X14 hw0 D0
      obtain ⟨wE, hwE⟩ : ∃ wE, wE = wx := ⟨_, rfl⟩
      rw [← hwE] at D1 PE ⊢
      clear hwE
      have PE := Lib.hid PE
      go_wp2_with fail
      go_loopw [82] (fun i wr => ∃ j : Nat, j ≤ 3 ∧ i = .int .i64 j ∧ Hid (Dice.Left wb wE wr g a0 len0 cap0 z0)) (fun i _ => (3 - intOf i).toNat)
      case atStart => exact ⟨0, by omega, rfl, Lib.hid (Dice.Left.refl D1.out)⟩
      case round =>
        obtain ⟨jo, hjo, rfl, O⟩ := hrel
        by_cases hj3 : jo < 3
        · have PW := far O.out NP PE.out
          obtain ⟨rx, ry, cp, cq⟩ : ∃ x y : Int, wr.cell? ⟨bP, jo * 2, none⟩ = some (.int .i64 x) ∧ wr.cell? ⟨bP, jo * 2 + 1, none⟩ = some (.int .i64 y) := by
            rcases (show jo = 0 ∨ jo = 1 ∨ jo = 2 by omega) with rfl | rfl | rfl
            · exact ⟨_, _, cell_of_row wr bP 0 _ _ _ PW, cell_of_row wr bP 1 _ _ _ PW⟩
            · exact ⟨_, _, cell_of_row wr bP 2 _ _ _ PW, cell_of_row wr bP 3 _ _ _ PW⟩
            · exact ⟨_, _, cell_of_row wr bP 4 _ _ _ PW, cell_of_row wr bP 5 _ _ _ PW⟩
          have bjo : (jo : Int) < 3 := by omega
          clear PW
          go_upto_region 8 with fail
          obtain ⟨wB, hwB⟩ : ∃ wz, wz = wr.alloc (.cells #[.int .i64 rx, .int .i64 ry] 24) := ⟨_, rfl⟩
          obtain ⟨bX, hbX⟩ : ∃ bz, bz = wr.heap.size := ⟨_, rfl⟩
          have hb : Below wr.heap.size wr wB := by rw [hwB]; exact new_block _
          have PX := Lib.hid (show wB.heap[bX]? = some (.cells #[.int .i64 rx, .int .i64 ry] 24 (0, 0)) by rw [hwB, hbX]; exact heap_alloc_new wr _)
          have O1 := Lib.hid (O.out.below hb)
          have NX : bX ≠ g := by have := O.out.di.lt; omega
          rw [← hwB, ← hbX]
          clear hwB hbX hb

          clear O cp cq
          obtain ⟨vv, VA, VB⟩ := valid_same rx ry
          replace VA := Lib.hid VA
          replace VB := Lib.hid VB
          have KX := Lib.hid fun wz (hb : Below wB.heap.size wB wz) => cells2 (hop hb PX.out)
          have d1 : (vv != vv) = false := by simp
          go_cut [90] from 86 to 89 (fun s wx => s = .bool false ∧ ∃ wz, wz = wx ∧ Hid (Below wB.heap.size wB wz))
          case first =>
            refine Buf.region_calm wB (by kernel_rfl) (by kernel_rfl) (Below.refl _ _) ?_
            repeat (go_big_quiet_step ((intro hC; first
              | (go_at_call 11; with_reducible exact Buf.calm hC (VA.out _))
              | (go_at_call 12; with_reducible exact Buf.calm hC (VB.out _))
              | rfl
              | (simp only [(KX.out _ hC).1, (KX.out _ hC).2, Result.andThen_ok]; exact ⟨trivial, rfl⟩))))
            refine wpQuiet_nil ?_
            intro w8 hb
            go_wp2_with fail
            go_meet
            exact ⟨rfl, _, rfl, Lib.hid hb⟩
          case rest =>
            obtain ⟨rfl, wD, rfl, hbb⟩ := hcut
            have L1 := Lib.hid ((Dice.Left.refl O1.out.di).below hbb.out)
            have hI := ints_alloc wD [0, 9007199254740992, 9007199254740993, -1] 3
            clear VA VB KX d1 hbb
            go_wp2_with fail
            refine (pick_any wD.heap.size [0, 9007199254740992, 9007199254740993, -1] 4 4 (L1.out.di.below (new_block _)) hI rfl (by omega) (by omega) (by have := L1.out.di.lt; omega) (by simp)).mono ?_
            rintro e w6 ⟨⟨s2, rfl, _⟩, hl⟩
            have L2 := Lib.hid ((L1.out.below (new_block _)).trans hl)
            clear hl hI L1
            go_upto_region 11 with fail
            obtain ⟨wF, hwF⟩ : ∃ wz, wz = w6.alloc (.cells #[.int .i64 st, .int .i64 1000000000000, .int .i64 s2] 3) := ⟨_, rfl⟩
            obtain ⟨bF, hbF⟩ : ∃ bz, bz = w6.heap.size := ⟨_, rfl⟩
            have hb : Below w6.heap.size w6 wF := by rw [hwF]; exact new_block _
            have PF := Lib.hid (show wF.heap[bF]? = some (.cells #[.int .i64 st, .int .i64 1000000000000, .int .i64 s2] 3 (0, 0)) by rw [hwF, hbF]; exact heap_alloc_new w6 _)
            have NF : bF ≠ g := by have := L2.out.di.lt; omega
            replace L2 := Lib.hid (L2.out.below hb)
            rw [← hwF, ← hbF]
            clear hwF hbF hb

            have O4 := Lib.hid (O1.out.trans L2.out)
            replace PX := Lib.hid (far L2.out NX PX.out)
            clear L2 O1
            have hL0 := Lib.hid (Dice.Left.refl O4.out.di)
            go_loopw [97] (fun i wr => ∃ j : Nat, j ≤ 3 ∧ i = .int .i64 j ∧ Hid (Dice.Left wb wF wr g a0 len0 cap0 z0)) (fun i _ => (3 - intOf i).toNat)
            case atStart => exact ⟨0, by omega, rfl, hL0⟩
            case round =>
              clear hL0
              obtain ⟨jm, hjm, rfl, O⟩ := hrel
              by_cases hj4 : jm < 3
              · have PW := far O.out NF PF.out
                obtain ⟨sv, cp⟩ : ∃ x : Int, wr.cell? ⟨bF, jm, none⟩ = some (.int .i64 x) := by
                  rcases (show jm = 0 ∨ jm = 1 ∨ jm = 2 by omega) with rfl | rfl | rfl
                  · exact ⟨_, cell_of_row wr bF 0 _ _ _ PW⟩
                  · exact ⟨_, cell_of_row wr bF 1 _ _ _ PW⟩
                  · exact ⟨_, cell_of_row wr bF 2 _ _ _ PW⟩
                have bjm : (jm : Int) < 3 := by omega
                clear PW
                go_wp2_with fail
                refine (next_any 100 O.out.di (by omega) (by omega)).mono ?_
                rintro e w7 ⟨⟨q1, rfl, _, _⟩, hl⟩
                have O5 := Lib.hid (O.out.trans hl)
                clear hl O cp
                go_upto_region 14 with fail
                obtain ⟨wG, hwG⟩ : ∃ wz, wz = w7.alloc (.cells #[.int .i64 kx, .int .i64 q1, .int .i64 16777216, .int .i64 16777217, .int .i64 (-1)] 3) := ⟨_, rfl⟩
                obtain ⟨bG, hbG⟩ : ∃ bz, bz = w7.heap.size := ⟨_, rfl⟩
                have hb : Below w7.heap.size w7 wG := by rw [hwG]; exact new_block _
                have PG := Lib.hid (show wG.heap[bG]? = some (.cells #[.int .i64 kx, .int .i64 q1, .int .i64 16777216, .int .i64 16777217, .int .i64 (-1)] 3 (0, 0)) by rw [hwG, hbG]; exact heap_alloc_new w7 _)
                replace O5 := Lib.hid (O5.out.below hb)
                rw [← hwG, ← hbG]
                clear hwG hbG hb

                have PX5 := Lib.hid (far O5.out NX PX.out)
                have B5 := Lib.hid (Below.refl wG.heap.size wG)
                go_loopw [106] (fun i wr => ∃ j : Nat, j ≤ 5 ∧ i = .int .i64 j ∧ Hid (Below wG.heap.size wG wr)) (fun i _ => (5 - intOf i).toNat)
                case atStart => exact ⟨0, by omega, rfl, B5⟩
                case round =>
                  clear B5
                  obtain ⟨ji, hji, rfl, BC⟩ := hrel
                  by_cases hj5 : ji < 5
                  · have PW := hop BC.out PG.out
                    obtain ⟨kv, cp⟩ : ∃ x : Int, wr.cell? ⟨bG, ji, none⟩ = some (.int .i64 x) := by
                      rcases (show ji = 0 ∨ ji = 1 ∨ ji = 2 ∨ ji = 3 ∨ ji = 4 by omega) with rfl | rfl | rfl | rfl | rfl
                      · exact ⟨_, cell_of_row wr bG 0 _ _ _ PW⟩
                      · exact ⟨_, cell_of_row wr bG 1 _ _ _ PW⟩
                      · exact ⟨_, cell_of_row wr bG 2 _ _ _ PW⟩
                      · exact ⟨_, cell_of_row wr bG 3 _ _ _ PW⟩
                      · exact ⟨_, cell_of_row wr bG 4 _ _ _ PW⟩
                    have bji : (ji : Int) < 5 := by omega
                    obtain ⟨av, ev, TA, TB⟩ := time_same sv rx ry kv
                    replace TA := Lib.hid TA
                    replace TB := Lib.hid TB
                    have d1 : (av != av) = false := by simp
                    have d2 : (ev != ev) = false := by simp
                    clear PW
                    obtain ⟨k0, k1⟩ := cells2 (hop BC.out PX5.out)
                    go_wp2_with fail
                    with_reducible refine (TA.out _).mono ?_
                    rintro e w8 ⟨rfl, hb⟩
                    replace BC := Lib.hid (Buf.then_ BC.out hb)
                    clear hb k0 k1
                    obtain ⟨k0, k1⟩ := cells2 (hop BC.out PX5.out)
                    go_wp2_with fail
                    with_reducible refine (TB.out _).mono ?_
                    rintro e w9 ⟨rfl, hb⟩
                    replace BC := Lib.hid (Buf.then_ BC.out hb)
                    clear hb k0 k1
                    go_wp2_with fail
                    go_roundw
                    case rel => exact ⟨ji + 1, by omega, by go_num, BC⟩
                    case measure => simp [intOf]; omega
                  · obtain rfl : ji = 5 := by omega
                    replace O5 := Lib.hid (O5.out.below BC.out)
                    clear PX5 PG BC hj5 hji
                    go_wp2_with fail
                    refine (next_any 2000000 O5.out.di (by omega) (by omega)).mono ?_
                    rintro e w7 ⟨⟨q2, rfl, _, _⟩, hl⟩
                    replace O5 := Lib.hid (O5.out.trans hl)
                    clear hl
                    go_upto_region 22 with fail
                    obtain ⟨wH, hwH⟩ : ∃ wz, wz = w7.alloc (.cells #[.int .i64 xx, .int .i64 sv, .int .i64 (wrap64 (wrap64 (sv + q2) - 5)), .int .i64 18014398509481984, .int .i64 18014398509481985] 3) := ⟨_, rfl⟩
                    obtain ⟨bH, hbH⟩ : ∃ bz, bz = w7.heap.size := ⟨_, rfl⟩
                    have hb : Below w7.heap.size w7 wH := by rw [hwH]; exact new_block _
                    have PH := Lib.hid (show wH.heap[bH]? = some (.cells #[.int .i64 xx, .int .i64 sv, .int .i64 (wrap64 (wrap64 (sv + q2) - 5)), .int .i64 18014398509481984, .int .i64 18014398509481985] 3 (0, 0)) by rw [hwH, hbH]; exact heap_alloc_new w7 _)
                    replace O5 := Lib.hid (O5.out.below hb)
                    rw [← hwH, ← hbH]
                    clear hwH hbH hb
                    have PX6 := Lib.hid (far O5.out NX PX.out)
                    have B6 := Lib.hid (Below.refl wH.heap.size wH)
                    go_loopw [142] (fun i wr => ∃ j : Nat, j ≤ 5 ∧ i = .int .i64 j ∧ Hid (Below wH.heap.size wH wr)) (fun i _ => (5 - intOf i).toNat)
                    case atStart => exact ⟨0, by omega, rfl, B6⟩
                    case round =>
                      clear B6
                      obtain ⟨ji, hji, rfl, BC⟩ := hrel
                      by_cases hj5 : ji < 5
                      · have PW := hop BC.out PH.out
                        obtain ⟨tv, cp⟩ : ∃ x : Int, wr.cell? ⟨bH, ji, none⟩ = some (.int .i64 x) := by
                          rcases (show ji = 0 ∨ ji = 1 ∨ ji = 2 ∨ ji = 3 ∨ ji = 4 by omega) with rfl | rfl | rfl | rfl | rfl
                          · exact ⟨_, cell_of_row wr bH 0 _ _ _ PW⟩
                          · exact ⟨_, cell_of_row wr bH 1 _ _ _ PW⟩
                          · exact ⟨_, cell_of_row wr bH 2 _ _ _ PW⟩
                          · exact ⟨_, cell_of_row wr bH 3 _ _ _ PW⟩
                          · exact ⟨_, cell_of_row wr bH 4 _ _ _ PW⟩

                        have bji : (ji : Int) < 5 := by omega
                        clear PW
                        obtain ⟨u1, u2, IA, IB⟩ := index_same sv rx ry tv
                        replace IA := Lib.hid IA
                        replace IB := Lib.hid IB
                        have Du1 : (u1 != u1) = false := by simp
                        have Du2 : (u2 != u2) = false := by simp
                        obtain ⟨u3, u4, NA, NB⟩ := next_same sv rx ry tv
                        replace NA := Lib.hid NA
                        replace NB := Lib.hid NB
                        have Du3 : (u3 != u3) = false := by simp
                        have Du4 : (u4 != u4) = false := by simp
                        obtain ⟨u5, u6, u7, EA, EB⟩ := nearest_same sv rx ry tv
                        replace EA := Lib.hid EA
                        replace EB := Lib.hid EB
                        have Du5 : (u5 != u5) = false := by simp
                        have Du6 : (u6 != u6) = false := by simp
                        have Du7 : (u7 != u7) = false := by simp
                        obtain ⟨u8, u9, MA, MB⟩ := number_same rx ry tv
                        replace MA := Lib.hid MA
                        replace MB := Lib.hid MB
                        have Du8 : (u8 != u8) = false := by simp
                        have Du9 : (u9 != u9) = false := by simp

                        obtain ⟨k0, k1⟩ := cells2 (hop BC.out PX6.out)
                        go_wp2_with fail
                        with_reducible refine (IA.out _).mono ?_
                        rintro e w10 ⟨rfl, hb⟩
                        replace BC := Lib.hid (Buf.then_ BC.out hb)
                        clear hb k0 k1
                        obtain ⟨k0, k1⟩ := cells2 (hop BC.out PX6.out)
                        go_wp2_with fail
                        with_reducible refine (IB.out _).mono ?_
                        rintro e w11 ⟨rfl, hb⟩
                        replace BC := Lib.hid (Buf.then_ BC.out hb)
                        clear hb k0 k1
                        obtain ⟨k0, k1⟩ := cells2 (hop BC.out PX6.out)
                        go_wp2_with fail
                        with_reducible refine (NA.out _).mono ?_
                        rintro e w12 ⟨rfl, hb⟩
                        replace BC := Lib.hid (Buf.then_ BC.out hb)
                        clear hb k0 k1
                        obtain ⟨k0, k1⟩ := cells2 (hop BC.out PX6.out)
                        go_wp2_with fail
                        with_reducible refine (NB.out _).mono ?_
                        rintro e w13 ⟨rfl, hb⟩
                        replace BC := Lib.hid (Buf.then_ BC.out hb)
                        clear hb k0 k1
                        obtain ⟨k0, k1⟩ := cells2 (hop BC.out PX6.out)
                        go_wp2_with fail
                        with_reducible refine (EA.out _).mono ?_
                        rintro e w14 ⟨rfl, hb⟩
                        replace BC := Lib.hid (Buf.then_ BC.out hb)
                        clear hb k0 k1
                        obtain ⟨k0, k1⟩ := cells2 (hop BC.out PX6.out)
                        go_wp2_with fail
                        with_reducible refine (EB.out _).mono ?_
                        rintro e w15 ⟨rfl, hb⟩
                        replace BC := Lib.hid (Buf.then_ BC.out hb)
                        clear hb k0 k1
                        obtain ⟨k0, k1⟩ := cells2 (hop BC.out PX6.out)
                        go_wp2_with fail
                        with_reducible refine (MA.out _).mono ?_
                        rintro e w16 ⟨rfl, hb⟩
                        replace BC := Lib.hid (Buf.then_ BC.out hb)
                        clear hb k0 k1
                        obtain ⟨k0, k1⟩ := cells2 (hop BC.out PX6.out)
                        go_wp2_with fail
                        with_reducible refine (MB.out _).mono ?_
                        rintro e w17 ⟨rfl, hb⟩
                        replace BC := Lib.hid (Buf.then_ BC.out hb)
                        clear hb k0 k1
                        obtain ⟨k0, k1⟩ := cells2 (hop BC.out PX6.out)
                        go_wp2_with fail
                        go_roundw
                        case rel => exact ⟨ji + 1, by omega, by go_num, BC⟩
                        case measure => simp [intOf]; omega
                      · obtain rfl : ji = 5 := by omega
                        replace O5 := Lib.hid (O5.out.below BC.out)
                        clear PX6 PH BC hj5 hji
                        go_wp2_with fail
                        go_roundw
                        case rel => exact ⟨jm + 1, by omega, by go_num, O5⟩
                        case measure => simp [intOf]; omega
              · obtain rfl : jm = 3 := by omega
                replace O4 := Lib.hid (O4.out.trans O.out)
                replace PX := Lib.hid (far O.out NX PX.out)
                clear O PF NF hj4 hjm
                go_wp2_with fail
                refine (pick_any _ [1, 2, 64, 65, 0] 5 5 (O4.out.di.below (new_block _)) (ints_alloc _ [1, 2, 64, 65, 0] 3) rfl (by omega) (by omega) (by have := O4.out.di.lt; omega) (by simp)).mono ?_
                rintro e w7 ⟨⟨q2, rfl, _⟩, hl⟩
                have L2 := Lib.hid (((Dice.Left.refl O4.out.di).below (new_block _)).trans hl)
                clear hl
                go_upto_region 37 with fail
                obtain ⟨wH, hwH⟩ : ∃ wz, wz = w7.alloc (.cells #[.int .i64 fx, .int .i64 q2] 3) := ⟨_, rfl⟩
                obtain ⟨bH, hbH⟩ : ∃ bz, bz = w7.heap.size := ⟨_, rfl⟩
                have hb : Below w7.heap.size w7 wH := by rw [hwH]; exact new_block _
                have PH := Lib.hid (show wH.heap[bH]? = some (.cells #[.int .i64 fx, .int .i64 q2] 3 (0, 0)) by rw [hwH, hbH]; exact heap_alloc_new w7 _)
                replace L2 := Lib.hid (L2.out.below hb)
                rw [← hwH, ← hbH]
                clear hwH hbH hb
                have O6 := Lib.hid (O4.out.trans L2.out)
                have PX6 := Lib.hid (far L2.out NX PX.out)
                clear L2 O4 PX
                have B6 := Lib.hid (Below.refl wH.heap.size wH)
                go_loopw [253] (fun i wr => ∃ j : Nat, j ≤ 2 ∧ i = .int .i64 j ∧ Hid (Below wH.heap.size wH wr)) (fun i _ => (2 - intOf i).toNat)
                case atStart => exact ⟨0, by omega, rfl, B6⟩
                case round =>
                  clear B6
                  obtain ⟨ji, hji, rfl, BC⟩ := hrel
                  by_cases hj5 : ji < 2
                  · have PW := hop BC.out PH.out
                    obtain ⟨fv, cp⟩ : ∃ x : Int, wr.cell? ⟨bH, ji, none⟩ = some (.int .i64 x) := by
                      rcases (show ji = 0 ∨ ji = 1 by omega) with rfl | rfl
                      · exact ⟨_, cell_of_row wr bH 0 _ _ _ PW⟩
                      · exact ⟨_, cell_of_row wr bH 1 _ _ _ PW⟩

                    have bji : (ji : Int) < 2 := by omega
                    clear PW
                    obtain ⟨u1, u2, u3, SA, SB⟩ := slower_same rx ry fv
                    replace SA := Lib.hid SA
                    replace SB := Lib.hid SB
                    have Du1 : (u1 != u1) = false := by simp
                    have Du2 : (u2 != u2) = false := by simp
                    have Du3 : (u3 != u3) = false := by simp
                    obtain ⟨u4, u5, MA, MB⟩ := samples_same rx ry (wrap64 (fv * 1000))
                    replace MA := Lib.hid MA
                    replace MB := Lib.hid MB
                    have Du4 : (u4 != u4) = false := by simp
                    have Du5 : (u5 != u5) = false := by simp
                    obtain ⟨u6, u7, XA, XB⟩ := samples_same rx ry xx
                    replace XA := Lib.hid XA
                    replace XB := Lib.hid XB
                    have Du6 : (u6 != u6) = false := by simp
                    have Du7 : (u7 != u7) = false := by simp

                    have E1 : (u1 == u1) = true := by simp
                    have E2 : (u2 == u2) = true := by simp
                    obtain ⟨k0, k1⟩ := cells2 (hop BC.out PX6.out)
                    go_wp2_with fail
                    with_reducible refine (SA.out _).mono ?_
                    rintro e w10 ⟨rfl, hb⟩
                    replace BC := Lib.hid (Buf.then_ BC.out hb)
                    clear hb k0 k1
                    go_upto_region 40 with fail
                    obtain ⟨v1, hv1⟩ : ∃ wz, wz = w10.alloc (.cells #[.int .i64 u1, .int .i64 u2] 24) := ⟨_, rfl⟩
                    obtain ⟨s1, hs1⟩ : ∃ bz, bz = w10.heap.size := ⟨_, rfl⟩
                    have hb : Below w10.heap.size w10 v1 := by rw [hv1]; exact new_block _
                    have Q1 := Lib.hid (show v1.heap[s1]? = some (.cells #[.int .i64 u1, .int .i64 u2] 24 (0, 0)) by rw [hv1, hs1]; exact heap_alloc_new w10 _)
                    replace BC := Lib.hid (Buf.then_ BC.out hb)
                    rw [← hv1, ← hs1]
                    clear hv1 hs1 hb
                    obtain ⟨k0, k1⟩ := cells2 (hop BC.out PX6.out)
                    go_wp2_with fail
                    with_reducible refine (SB.out _).mono ?_
                    rintro e w11 ⟨rfl, hb⟩
                    replace Q1 := Lib.hid (hop hb Q1.out)
                    replace BC := Lib.hid (Buf.then_ BC.out hb)
                    clear hb k0 k1
                    go_upto_region 41 with fail
                    obtain ⟨v2, hv2⟩ : ∃ wz, wz = w11.alloc (.cells #[.int .i64 u1, .int .i64 u2] 24) := ⟨_, rfl⟩
                    obtain ⟨s2_, hs2_⟩ : ∃ bz, bz = w11.heap.size := ⟨_, rfl⟩
                    have hb : Below w11.heap.size w11 v2 := by rw [hv2]; exact new_block _
                    have Q2 := Lib.hid (show v2.heap[s2_]? = some (.cells #[.int .i64 u1, .int .i64 u2] 24 (0, 0)) by rw [hv2, hs2_]; exact heap_alloc_new w11 _)
                    replace Q1 := Lib.hid (hop hb Q1.out)
                    replace BC := Lib.hid (Buf.then_ BC.out hb)
                    rw [← hv2, ← hs2_]
                    clear hv2 hs2_ hb
                    obtain ⟨k0, k1⟩ := cells2 (hop BC.out PX6.out)
                    go_wp2_with fail
                    with_reducible refine (MA.out _).mono ?_
                    rintro e w20 ⟨rfl, hb⟩
                    replace Q1 := Lib.hid (hop hb Q1.out)
                    replace Q2 := Lib.hid (hop hb Q2.out)
                    replace BC := Lib.hid (Buf.then_ BC.out hb)
                    clear hb k0 k1
                    obtain ⟨k0, k1⟩ := cells2 (hop BC.out PX6.out)
                    go_wp2_with fail
                    with_reducible refine (MB.out _).mono ?_
                    rintro e w21 ⟨rfl, hb⟩
                    replace Q1 := Lib.hid (hop hb Q1.out)
                    replace Q2 := Lib.hid (hop hb Q2.out)
                    replace BC := Lib.hid (Buf.then_ BC.out hb)
                    clear hb k0 k1
                    obtain ⟨k0, k1⟩ := cells2 (hop BC.out PX6.out)
                    go_wp2_with fail
                    with_reducible refine (XA.out _).mono ?_
                    rintro e w22 ⟨rfl, hb⟩
                    replace Q1 := Lib.hid (hop hb Q1.out)
                    replace Q2 := Lib.hid (hop hb Q2.out)
                    replace BC := Lib.hid (Buf.then_ BC.out hb)
                    clear hb k0 k1
                    obtain ⟨k0, k1⟩ := cells2 (hop BC.out PX6.out)
                    go_wp2_with fail
                    with_reducible refine (XB.out _).mono ?_
                    rintro e w23 ⟨rfl, hb⟩
                    replace Q1 := Lib.hid (hop hb Q1.out)
                    replace Q2 := Lib.hid (hop hb Q2.out)
                    replace BC := Lib.hid (Buf.then_ BC.out hb)
                    clear hb k0 k1
                    obtain ⟨k0, k1⟩ := cells2 (hop BC.out PX6.out)
                    obtain ⟨k2, k3⟩ := cells2 Q1.out
                    obtain ⟨k4, k5⟩ := cells2 Q2.out
                    go_wp2_with fail
                    go_roundw
                    case rel => exact ⟨ji + 1, by omega, by go_num, BC⟩
                    case measure => simp [intOf]; omega
                  · obtain rfl : ji = 2 := by omega
                    replace O6 := Lib.hid (O6.out.below BC.out)
                    clear PX6 PH BC hj5 hji
                    go_wp2_with fail
                    go_roundw
                    case rel => exact ⟨jo + 1, by omega, by go_num, O6⟩
                    case measure => simp [intOf]; omega
        · obtain rfl : jo = 3 := by omega
          obtain ⟨u1, u2, u3, NA, NB⟩ := new_same kx xx
          replace NA := Lib.hid NA
          replace NB := Lib.hid NB
          have Du1 : (u1 != u1) = false := by simp
          have Du2 : (u2 != u2) = false := by simp
          have Du3 : (u3 != u3) = false := by simp
          have E1 : (u1 == u1) = true := by simp
          have E2 : (u2 == u2) = true := by simp
          have E3 : (u3 == u3) = true := by simp
          have BZ := Lib.hid (Buf.then_ B0.out O.out.di.bel)
          clear O PE NP D1
          go_wp2_with fail
          with_reducible refine (NA.out _).mono ?_
          rintro e w10 ⟨rfl, hb⟩
          replace BZ := Lib.hid (Buf.then_ BZ.out hb)
          clear hb
          go_upto_region 50 with fail
          obtain ⟨v1, hv1⟩ : ∃ wz, wz = w10.alloc (.cells #[.int .i64 u1, .int .i64 u2] 24) := ⟨_, rfl⟩
          obtain ⟨s1, hs1⟩ : ∃ bz, bz = w10.heap.size := ⟨_, rfl⟩
          have hb : Below w10.heap.size w10 v1 := by rw [hv1]; exact new_block _
          have Q1 := Lib.hid (show v1.heap[s1]? = some (.cells #[.int .i64 u1, .int .i64 u2] 24 (0, 0)) by rw [hv1, hs1]; exact heap_alloc_new w10 _)
          replace BZ := Lib.hid (Buf.then_ BZ.out hb)
          rw [← hv1, ← hs1]
          clear hv1 hs1 hb
          go_wp2_with fail
          with_reducible refine (NB.out _).mono ?_
          rintro e w11 ⟨rfl, hb⟩
          replace Q1 := Lib.hid (hop hb Q1.out)
          replace BZ := Lib.hid (Buf.then_ BZ.out hb)
          clear hb
          go_upto_region 51 with fail
          obtain ⟨v2, hv2⟩ : ∃ wz, wz = w11.alloc (.cells #[.int .i64 u1, .int .i64 u2] 24) := ⟨_, rfl⟩
          obtain ⟨s2_, hs2_⟩ : ∃ bz, bz = w11.heap.size := ⟨_, rfl⟩
          have hb : Below w11.heap.size w11 v2 := by rw [hv2]; exact new_block _
          have Q2 := Lib.hid (show v2.heap[s2_]? = some (.cells #[.int .i64 u1, .int .i64 u2] 24 (0, 0)) by rw [hv2, hs2_]; exact heap_alloc_new w11 _)
          replace Q1 := Lib.hid (hop hb Q1.out)
          replace BZ := Lib.hid (Buf.then_ BZ.out hb)
          rw [← hv2, ← hs2_]
          clear hv2 hs2_ hb
          obtain ⟨k2, k3⟩ := cells2 Q1.out
          obtain ⟨k4, k5⟩ := cells2 Q2.out
          go_wp2_with (go_at_call 7; with_reducible refine (SN.out _).mono ?_; rintro e w12 ⟨rfl, hb⟩)
          go_ret
          exact ⟨rfl, Buf.then_ BZ.out hb⟩
  · have hd : decide ((len0 : Int) ≤ 500) = false := by simp; omega
    go_wp2_with (first | (go_at_call 6; refine (light_any _ _ _ _).mono ?_; rintro e w1 ⟨rfl, hw⟩; replace hw := hw.symm; subst hw; rw [hd]) | (go_at_call 7; with_reducible refine (SN.out _).mono ?_; rintro e w2 ⟨rfl, hb⟩))
    go_ret
    exact ⟨rfl, B0.out.trans (hb.mono (B0.out.size))⟩
end Laws
end Go.Proofs.Ytgckppkfpccanaa
