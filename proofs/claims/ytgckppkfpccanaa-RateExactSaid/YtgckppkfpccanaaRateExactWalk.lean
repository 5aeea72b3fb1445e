/- The walk of RateExact. -/
import Derived.Test.YtgckppkfpccanaaRateXE
import Derived.Test.YtgckppkfpccanaaInv
import Derived.RegionTactic
import Derived.Deep.RegionHeld3
import Derived.Deep.CutBlock
import Derived.Deep.DeepCutAuto
set_option linter.unusedVariables false
set_option linter.unusedSimpArgs false
namespace Go.Proofs.Ytgckppkfpccanaa
open Go.RowKit Dice
namespace Laws
open Rate
theorem row_keep {w w' : World} {a : Option Addr} {len cap : Nat} {zs : List Int} (h : Buf.IsRow .i64 w a len cap zs) (hb : Below w.heap.size w w') : Buf.IsRow .i64 w' a len cap zs := by
  rcases h with h | ⟨x, e, h1, h2, h3, h4, h5⟩
  · exact .inl h
  · exact .inr ⟨x, e, h1, h2, h3, fun i hi => by
      have h := h4 i hi
      exact (hb.cell (Nat.lt_of_not_le fun hh => by unfold World.cell? at h; rw [Array.getElem?_eq_none hh] at h; cases h)).trans h, h5⟩
theorem cells2 {w : World} {b : Nat} {x y : Value} {t : TypeId} (h : w.heap[b]? = some (.cells #[x, y] t (0, 0))) : w.cell? ⟨b, 0, none⟩ = some x ∧ w.cell? ⟨b, 1, none⟩ = some y :=
  ⟨cell_of_row w b 0 _ _ _ h, cell_of_row w b 1 _ _ _ h⟩
theorem hop {w w' : World} {b : Nat} {o : Obj} (hb : Below w.heap.size w w') (h : w.heap[b]? = some o) : w'.heap[b]? = some o := by
  rw [hb.block b (Array.getElem?_eq_some_iff.1 h).1]; exact h
theorem far {W w w' : World} {g b : Nat} {a : Option Addr} {len cap : Nat} {zs : List Int} {o : Obj} (hl : Dice.Left W w w' g a len cap zs) (hg : b ≠ g) (h : w.heap[b]? = some o) : w'.heap[b]? = some o :=
  (hl.far.block b (Array.getElem?_eq_some_iff.1 h).1 (by simpa using hg)).trans h
structure Ckp (p : Prop) : Prop where
  out : p
set_option maxHeartbeats 16000000 in
set_option maxRecDepth 100000 in
noncomputable def ck_root : (P_ra1 : Prop) ×' (Ckp P_ra1 → ∀ (a0 : Option Addr) (len0 cap0 : Nat) (z0 : List Int) (rn rd st kx xx fx : Int) (w : World) (w0 : Buf.IsRow .i64 w a0 len0 cap0 z0) (p1 : (Lit.int .i64 rn).wf = true) (q1 : (Lit.int .i64 rd).wf = true) (w2 : (Lit.int .i64 st).wf = true) (w3 : (Lit.int .i64 kx).wf = true) (w4 : (Lit.int .i64 xx).wf = true) (w5 : (Lit.int .i64 fx).wf = true), Calls Try.prog 3 #[.slice a0 len0 cap0, .agg #[.int .i64 rn, .int .i64 rd], .int .i64 st, .int .i64 kx, .int .i64 xx, .int .i64 fx] w fun e w' => e = .returned (.bool true) ∧ Below w.heap.size w w') := by
  apply PSigma.mk
  case snd =>
    intro hck_ra1
    intro a0 len0 cap0 z0 rn rd st kx xx fx w w0 p1 q1
      w2 w3 w4 w5
    have SN := Lib.hid sane_any
    clear p1 q1 w2 w3 w4 w5
    go_enter Try.func3, Try.ntmps3
    obtain ⟨wb, hwb⟩ : ∃ wb, wb = w.alloc (.cells #[.int .i64 rn, .int .i64 rd] 24) := ⟨_, rfl⟩
    obtain ⟨b7, hb7⟩ : ∃ b7, b7 = w.heap.size := ⟨_, rfl⟩
    have B0 := Lib.hid (show Below w.heap.size w wb by rw [hwb]; exact new_block _)
    have P7 := Lib.hid (show wb.heap[b7]? = some (.cells #[.int .i64 rn, .int .i64 rd] 24 (0, 0)) by rw [hwb, hb7]; exact heap_alloc_new w _)
    go_upto_region 1 with fail
    rw [← hwb, ← hb7]
    have hb7' : b7 < wb.heap.size := (Array.getElem?_eq_some_iff.1 P7.out).1
    clear hwb hb7
    by_cases hs : len0 ≤ 500
    · have hd : decide ((len0 : Int) ≤ 500) = true := by simp; omega
      go_upto_region 3 with (go_at_call 6; refine (light_any _ _ _ _).mono ?_; rintro e w1 ⟨rfl, hw⟩; replace hw := hw.symm; subst hw; rw [hd])
      go_wp2_with fail
      refine (roll_any a0 len0 cap0 z0 _ (row_keep w0 B0.out) hs).mono ?_
      rintro e wd ⟨rfl, hdi⟩
      obtain ⟨g, hdd⟩ : ∃ g, g = wb.heap.size := ⟨_, rfl⟩
      rw [← hdd] at hdi hb7' ⊢
      have P7d := hop hdi.bel P7.out
      clear hdd P7
      go_wp2_with fail
      refine (rate_any hdi).mono ?_
      rintro e wc ⟨⟨n, d, rfl, _⟩, hl⟩
      have P7c := Lib.hid (far hl (Nat.ne_of_lt hb7') P7d)
      have D0 := Lib.hid hl.di
      clear hl hdi P7d hd
      go_upto_region 5 with fail
      obtain ⟨wA, hwA⟩ : ∃ wA, wA = wc.alloc (.cells #[.int .i64 n, .int .i64 d] 24) := ⟨_, rfl⟩
      obtain ⟨b14, hb14⟩ : ∃ b14, b14 = wc.heap.size := ⟨_, rfl⟩
      have BA : Below wc.heap.size wc wA := by rw [hwA]; exact new_block _
      have P14 := Lib.hid (show wA.heap[b14]? = some (.cells #[.int .i64 n, .int .i64 d] 24 (0, 0)) by rw [hwA, hb14]; exact heap_alloc_new wc _)
      have N14 : b14 ≠ g := by have := D0.out.lt; omega
      have N7 : b7 ≠ g := Nat.ne_of_lt hb7'
      have P7 := Lib.hid (hop BA P7c.out)
      replace D0 := Lib.hid (D0.out.below BA)
      rw [← hwA, ← hb14]
      clear hwA hb14 BA P7c hb7'
      have X7 := Lib.hid fun wz (hl : Dice.Left wb wA wz g a0 len0 cap0 z0) => far hl N7 P7.out
      have X14 := Lib.hid fun wz (hl : Dice.Left wb wA wz g a0 len0 cap0 z0) => far hl N14 P14.out
      have hw0 : Dice.Left wb wA wA.drew g a0 len0 cap0 z0 := (Dice.Left.refl D0.out).below (Below.refl _ _).drew
      clear P7 P14 N7 N14
      refine wp_region_noPanic ?_
      refine wp_region_any (by kernel_rfl) ?_
      refine Inv.wpAny_inv (fun k => false) [71, 72, 73, 74, 75, 76, 77, 78, 79, 80, 81, 82] (fun w' => Dice.Left wb wA w' g a0 len0 cap0 z0) (fun _ w1 w2 => w1.grownBy w2 (some g)) (fun k => ([fun v_ w_ => v_ = .agg #[.int .i64 n, .int .i64 d], fun v_ w_ => v_ = .agg #[.int .i64 rn, .int .i64 rd], fun v_ w_ => v_ = .pointer (some ⟨g, 0, none⟩), fun v_ w_ => ∃ h : Nat, v_ = .slice (some ⟨h, 0, none⟩) 3 3 ∧ h ≠ g ∧ h < w_.heap.size ∧ Ints w_ h [2, 4097, 0], fun v_ w_ => ∃ y : Int, v_ = .int .i64 y, fun v_ w_ => v_ = .pointer (some ⟨g, 0, none⟩), fun v_ w_ => ∃ h : Nat, v_ = .slice (some ⟨h, 0, none⟩) 2 2 ∧ h ≠ g ∧ h < w_.heap.size ∧ Ints w_ h [4, 1], fun v_ w_ => ∃ y : Int, v_ = .int .i64 y, fun v_ w_ => ∃ x y : Int, v_ = .agg #[.int .i64 x, .int .i64 y], fun v_ w_ => ∃ (h : Nat) (x y : Int), v_ = .slice (some ⟨h, 0, none⟩) 3 3 ∧ h ≠ g ∧ w_.heap[h]? = some (.cells #[.int .i64 n, .int .i64 d, .int .i64 rn, .int .i64 rd, .int .i64 x, .int .i64 y] 24 (0, 0)), fun v_ w_ => v_ = .int .i64 3, fun v_ w_ => v_ = .int .i64 0] : List (Value → World → Prop)).getD k (fun _ _ => True)) _ (fun σ => by simp only [Inv.putAll, List.foldl_cons, List.foldl_nil, Act.put, List.setIfInBounds_toArray, List.set_cons_zero, List.set_cons_succ]; rfl) (by kernel_rfl) (by kernel_rfl) ?_ hw0 ?_ ?_ 0 #[true, true, true, true, true, true, true, true, true, true, true, true] (by kernel_rfl) (by kernel_rfl) ?_
      · intro j k v w1 w2 hjk hv hr
        rcases k with _ | k
        · exact hv
        rcases k with _ | k
        · exact hv
        rcases k with _ | k
        · exact hv
        rcases k with _ | k
        · exact by obtain ⟨h, h1, h2, h3, h4⟩ := hv; exact ⟨h, h1, h2, Nat.lt_of_lt_of_le h3 hr.size, fun j hj => (World.cell?_of_block (a := ⟨h, j, none⟩) (hr.block h h3 (by simpa using h2))).trans (h4 j hj)⟩
        rcases k with _ | k
        · exact hv
        rcases k with _ | k
        · exact hv
        rcases k with _ | k
        · exact by obtain ⟨h, h1, h2, h3, h4⟩ := hv; exact ⟨h, h1, h2, Nat.lt_of_lt_of_le h3 hr.size, fun j hj => (World.cell?_of_block (a := ⟨h, j, none⟩) (hr.block h h3 (by simpa using h2))).trans (h4 j hj)⟩
        rcases k with _ | k
        · exact hv
        rcases k with _ | k
        · exact hv
        rcases k with _ | k
        · exact by obtain ⟨h, x, y, h1, h2, h3⟩ := hv; exact ⟨h, x, y, h1, h2, (hr.block h (Array.getElem?_eq_some_iff.1 h3).1 (by simpa using h2)).trans h3⟩
        rcases k with _ | k
        · exact hv
        rcases k with _ | k
        · exact hv
        · exact hv
      · intro k t hl hd
        rcases k with _ | k
        · exact absurd hl (by decide +kernel)
        rcases k with _ | k
        · exact absurd hl (by decide +kernel)
        rcases k with _ | k
        · exact absurd hl (by decide +kernel)
        rcases k with _ | k
        · exact absurd hl (by decide +kernel)
        rcases k with _ | k
        · exact absurd hl (by decide +kernel)
        rcases k with _ | k
        · exact absurd hl (by decide +kernel)
        rcases k with _ | k
        · exact absurd hl (by decide +kernel)
        rcases k with _ | k
        · exact absurd hl (by decide +kernel)
        rcases k with _ | k
        · exact absurd hl (by decide +kernel)
        rcases k with _ | k
        · exact absurd hl (by decide +kernel)
        rcases k with _ | k
        · exact absurd hl (by decide +kernel)
        rcases k with _ | k
        · exact absurd hl (by decide +kernel)
        · simp at hd
      · show Inv.Steps _ _ _ _ _ _ _ _ [0, 1, 2, 3, 4, 5, 6, 7, 8, 9, 10, 11]
        refine Inv.Steps.go (by decide) (by rfl) (fun σ wx hw hd K hK => ?_) ?_
        · simp only [List.getElem_toArray, List.getElem_cons_zero, List.getElem_cons_succ, Act.put, List.setIfInBounds_toArray, List.set_cons_zero, List.set_cons_succ] at hK ⊢
          have hx := X14.out _ hw
          refine wp_load_row 24 (.tmp 14) rfl b14 rfl 24 #[.int .i64 n, .int .i64 d] (0, 0) _ hx rfl rfl rfl ?_
          simp only [Act.put, List.setIfInBounds_toArray, List.set_cons_zero, List.set_cons_succ]
          exact hK.out _ _ hw (World.grownBy.refl _ _) (rfl)
        refine Inv.Steps.go (by decide) (by rfl) (fun σ wx hw hd K hK => ?_) ?_
        · simp only [List.getElem_toArray, List.getElem_cons_zero, List.getElem_cons_succ, Act.put, List.setIfInBounds_toArray, List.set_cons_zero, List.set_cons_succ] at hK ⊢
          have hx := X7.out _ hw
          refine wp_load_row 24 (.tmp 7) rfl b7 rfl 24 #[.int .i64 rn, .int .i64 rd] (0, 0) _ hx rfl rfl rfl ?_
          simp only [Act.put, List.setIfInBounds_toArray, List.set_cons_zero, List.set_cons_succ]
          exact hK.out _ _ hw (World.grownBy.refl _ _) (rfl)
        refine Inv.Steps.go (by decide) (by rfl) (fun σ wx hw hd K hK => ?_) ?_
        · simp only [List.getElem_toArray, List.getElem_cons_zero, List.getElem_cons_succ, Act.put, List.setIfInBounds_toArray, List.set_cons_zero, List.set_cons_succ] at hK ⊢
          go_simp
          exact hK.out _ _ hw (World.grownBy.refl _ _) (rfl)
        refine Inv.Steps.go (by decide) (by rfl) (fun σ wx hw hd K hK => ?_) ?_
        · simp only [List.getElem_toArray, List.getElem_cons_zero, List.getElem_cons_succ, Act.put, List.setIfInBounds_toArray, List.set_cons_zero, List.set_cons_succ] at hK ⊢
          have hlt := hw.di.lt
          go_simp
          exact hK.out _ _ (hw.below (new_block _)) (Dice.Left.far ((Dice.Left.refl hw.di).below (new_block _))) (⟨_, rfl, by omega, by simp, ints_alloc wx [2, 4097, 0] 3⟩)
        refine Inv.Steps.go (by decide) (by rfl) (fun σ wx hw hd K hK => ?_) ?_
        · obtain e73 : (σ 73) = .pointer (some ⟨g, 0, none⟩) := hd 2 (some 73) (by kernel_rfl) (by rfl)
          obtain ⟨h74, e74, hn74, hs74, hi74⟩ : ∃ h : Nat, (σ 74) = .slice (some ⟨h, 0, none⟩) 3 3 ∧ h ≠ g ∧ h < wx.heap.size ∧ Ints wx h [2, 4097, 0] := hd 3 (some 74) (by kernel_rfl) (by rfl)
          simp only [List.getElem_toArray, List.getElem_cons_zero, List.getElem_cons_succ, Act.put, List.setIfInBounds_toArray, List.set_cons_zero, List.set_cons_succ, e73, e74] at hK ⊢
          go_simp
          go_at_call 10
          refine (pick_any h74 [2, 4097, 0] 3 3 hw.di hi74 rfl (by omega) (by omega) hn74 hs74).mono ?_
          rintro e w1 ⟨⟨y_, rfl, _⟩, hl_⟩
          dsimp only
          exact hK.out _ _ (hw.trans hl_) hl_.far (⟨y_, rfl⟩)
        refine Inv.Steps.go (by decide) (by rfl) (fun σ wx hw hd K hK => ?_) ?_
        · simp only [List.getElem_toArray, List.getElem_cons_zero, List.getElem_cons_succ, Act.put, List.setIfInBounds_toArray, List.set_cons_zero, List.set_cons_succ] at hK ⊢
          go_simp
          exact hK.out _ _ hw (World.grownBy.refl _ _) (rfl)
        refine Inv.Steps.go (by decide) (by rfl) (fun σ wx hw hd K hK => ?_) ?_
        · simp only [List.getElem_toArray, List.getElem_cons_zero, List.getElem_cons_succ, Act.put, List.setIfInBounds_toArray, List.set_cons_zero, List.set_cons_succ] at hK ⊢
          have hlt := hw.di.lt
          go_simp
          exact hK.out _ _ (hw.below (new_block _)) (Dice.Left.far ((Dice.Left.refl hw.di).below (new_block _))) (⟨_, rfl, by omega, by simp, ints_alloc wx [4, 1] 3⟩)
        refine Inv.Steps.go (by decide) (by rfl) (fun σ wx hw hd K hK => ?_) ?_
        · obtain e76 : (σ 76) = .pointer (some ⟨g, 0, none⟩) := hd 5 (some 76) (by kernel_rfl) (by rfl)
          obtain ⟨h77, e77, hn77, hs77, hi77⟩ : ∃ h : Nat, (σ 77) = .slice (some ⟨h, 0, none⟩) 2 2 ∧ h ≠ g ∧ h < wx.heap.size ∧ Ints wx h [4, 1] := hd 6 (some 77) (by kernel_rfl) (by rfl)
          simp only [List.getElem_toArray, List.getElem_cons_zero, List.getElem_cons_succ, Act.put, List.setIfInBounds_toArray, List.set_cons_zero, List.set_cons_succ, e76, e77] at hK ⊢
          go_simp
          go_at_call 10
          refine (pick_any h77 [4, 1] 2 2 hw.di hi77 rfl (by omega) (by omega) hn77 hs77).mono ?_
          rintro e w1 ⟨⟨y_, rfl, _⟩, hl_⟩
          dsimp only
          exact hK.out _ _ (hw.trans hl_) hl_.far (⟨y_, rfl⟩)
        refine Inv.Steps.go (by decide) (by rfl) (fun σ wx hw hd K hK => ?_) ?_
        · obtain ⟨y75, e75⟩ : ∃ y : Int, (σ 75) = .int .i64 y := hd 4 (some 75) (by kernel_rfl) (by rfl)
          obtain ⟨y78, e78⟩ : ∃ y : Int, (σ 78) = .int .i64 y := hd 7 (some 78) (by kernel_rfl) (by rfl)
          simp only [List.getElem_toArray, List.getElem_cons_zero, List.getElem_cons_succ, Act.put, List.setIfInBounds_toArray, List.set_cons_zero, List.set_cons_succ, e75, e78] at hK ⊢
          go_simp
          exact hK.out _ _ hw (World.grownBy.refl _ _) (⟨_, _, rfl⟩)
        refine Inv.Steps.go (by decide) (by rfl) (fun σ wx hw hd K hK => ?_) ?_
        · obtain e71 : (σ 71) = .agg #[.int .i64 n, .int .i64 d] := hd 0 (some 71) (by kernel_rfl) (by rfl)
          obtain e72 : (σ 72) = .agg #[.int .i64 rn, .int .i64 rd] := hd 1 (some 72) (by kernel_rfl) (by rfl)
          obtain ⟨y1, y2, e79⟩ : ∃ x y : Int, (σ 79) = .agg #[.int .i64 x, .int .i64 y] := hd 8 (some 79) (by kernel_rfl) (by rfl)
          simp only [List.getElem_toArray, List.getElem_cons_zero, List.getElem_cons_succ, Act.put, List.setIfInBounds_toArray, List.set_cons_zero, List.set_cons_succ, e71, e72, e79] at hK ⊢
          have hlt := hw.di.lt
          go_simp
          exact hK.out _ _ (hw.below (new_block _)) (Dice.Left.far ((Dice.Left.refl hw.di).below (new_block _))) (⟨_, _, _, rfl, by omega, heap_alloc_new _ _⟩)
        refine Inv.Steps.go (by decide) (by rfl) (fun σ wx hw hd K hK => ?_) ?_
        · obtain ⟨bP, yn, yd, e80, NP, PE⟩ : ∃ (h : Nat) (x y : Int), (σ 80) = .slice (some ⟨h, 0, none⟩) 3 3 ∧ h ≠ g ∧ wx.heap[h]? = some (.cells #[.int .i64 n, .int .i64 d, .int .i64 rn, .int .i64 rd, .int .i64 x, .int .i64 y] 24 (0, 0)) := hd 9 (some 80) (by kernel_rfl) (by rfl)
          simp only [List.getElem_toArray, List.getElem_cons_zero, List.getElem_cons_succ, Act.put, List.setIfInBounds_toArray, List.set_cons_zero, List.set_cons_succ, e80] at hK ⊢
          go_simp
          exact hK.out _ _ hw (World.grownBy.refl _ _) (rfl)
        refine Inv.Steps.go (by decide) (by rfl) (fun σ wx hw hd K hK => ?_) ?_
        · simp only [List.getElem_toArray, List.getElem_cons_zero, List.getElem_cons_succ, Act.put, List.setIfInBounds_toArray, List.set_cons_zero, List.set_cons_succ] at hK ⊢
          go_simp
          exact hK.out _ _ hw (World.grownBy.refl _ _) (rfl)
        exact Inv.Steps.nil
      · intro σ wx hw hd
        obtain ⟨bP, yn, yd, e80, NP, PE⟩ : ∃ (h : Nat) (x y : Int), (σ 80) = .slice (some ⟨h, 0, none⟩) 3 3 ∧ h ≠ g ∧ wx.heap[h]? = some (.cells #[.int .i64 n, .int .i64 d, .int .i64 rn, .int .i64 rd, .int .i64 x, .int .i64 y] 24 (0, 0)) := hd 9 (some 80) (by rfl) (by rfl)
        have e81 : (σ 81) = .int .i64 3 := hd 10 (some 81) (by rfl) (by rfl)
        have e82 : (σ 82) = .int .i64 0 := hd 11 (some 82) (by rfl) (by rfl)
        simp only [e80, e81, e82]
        clear e80 e81 e82
        refine Inv.done (by kernel_rfl) (NoPanic.normal ?_)
        have D1 := Lib.hid hw.di
        clear hd hw X7 X14 hw0 D0
        obtain ⟨wE, hwE⟩ : ∃ wE, wE = wx := ⟨_, rfl⟩
        rw [← hwE] at D1 PE ⊢
        clear hwE
        have PE := Lib.hid PE
        rename_i ra1i0 ra1i1 ra1i2 ra1i3 ra1i4 ra1i5 ra1i6
        revert a0 len0 cap0 z0 rn rd st kx xx fx w w0 SN wb b7 B0 ra1i0 hs wd g wc n d ra1i1 ra1i2 ra1i3 ra1i4 ra1i5 wA b14 σ wx bP yn yd NP wE ra1i6 D1 PE
        exact hck_ra1.out
    · have hd : decide ((len0 : Int) ≤ 500) = false := by simp; omega
      go_wp2_with (first | (go_at_call 6; refine (light_any _ _ _ _).mono ?_; rintro e w1 ⟨rfl, hw⟩; replace hw := hw.symm; subst hw; rw [hd]) | (go_at_call 7; with_reducible refine (SN.out _).mono ?_; rintro e w2 ⟨rfl, hb⟩))
      go_ret
      exact ⟨rfl, B0.out.trans (hb.mono (B0.out.size))⟩
set_option maxHeartbeats 16000000 in
set_option maxRecDepth 100000 in
noncomputable def ck_ra1 : (P_rb1 : Prop) ×' (P_rz1 : Prop) ×' (Ckp P_rb1 → Ckp P_rz1 → ck_root.1) := by
  apply PSigma.mk
  case snd =>
    apply PSigma.mk
    case snd =>
      intro hck_rb1 hck_rz1
      intro a0 len0 cap0 z0 rn rd st kx xx fx w w0 SN wb
        b7 B0 ra1i0 hs wd g wc n d ra1i1 ra1i2 ra1i3 ra1i4 ra1i5
        wA b14 σ wx bP yn yd NP wE ra1i6 D1 PE

      go_wp2_with fail
      go_loopw [82] (fun i wr => ∃ j : Nat, j ≤ 3 ∧ i = .int .i64 j ∧ Hid (Dice.Left wb wE wr g a0 len0 cap0 z0)) (fun i _ => (3 - intOf i).toNat)
      case atStart => exact ⟨0, by omega, rfl, Lib.hid (Dice.Left.refl D1.out)⟩
      case round =>
        obtain ⟨jo, hjo, rfl, O⟩ := hrel
        by_cases hj3 : jo < 3
        · have PW := far O.out NP PE.out
          obtain ⟨rx, ry, cp, cq⟩ : ∃ x y : Int, wr.cell? ⟨bP, jo * 2, none⟩ = some (.int .i64 x) ∧ wr.cell? ⟨bP, jo * 2 + 1, none⟩ = some (.int .i64 y) := by
            rcases (show jo = 0 ∨ jo = 1 ∨ jo = 2 by omega) with rfl | rfl | rfl
            · exact ⟨_, _, cell_of_row wr bP 0 _ _ _ PW, cell_of_row wr bP 1 _ _ _ PW⟩
            · exact ⟨_, _, cell_of_row wr bP 2 _ _ _ PW, cell_of_row wr bP 3 _ _ _ PW⟩
            · exact ⟨_, _, cell_of_row wr bP 4 _ _ _ PW, cell_of_row wr bP 5 _ _ _ PW⟩
          have bjo : (jo : Int) < 3 := by omega
          clear PW
          go_upto_region 8 with fail
          obtain ⟨wB, hwB⟩ : ∃ wz, wz = wr.alloc (.cells #[.int .i64 rx, .int .i64 ry] 24) := ⟨_, rfl⟩
          obtain ⟨bX, hbX⟩ : ∃ bz, bz = wr.heap.size := ⟨_, rfl⟩
          have hb : Below wr.heap.size wr wB := by rw [hwB]; exact new_block _
          have PX := Lib.hid (show wB.heap[bX]? = some (.cells #[.int .i64 rx, .int .i64 ry] 24 (0, 0)) by rw [hwB, hbX]; exact heap_alloc_new wr _)
          have O1 := Lib.hid (O.out.below hb)
          have NX : bX ≠ g := by have := O.out.di.lt; omega
          rw [← hwB, ← hbX]
          clear hwB hbX hb

          clear O cp cq
          rename_i rb1i0 rb1i1 rb1i2 rb1i3 rb1i4 rb1i5 rb1i6
          revert a0 len0 cap0 z0 rn rd st kx xx fx w w0 SN wb b7 B0 ra1i0 hs wd g wc n d ra1i1 ra1i2 ra1i3 wA b14 σ wx bP yn yd NP wE ra1i6 D1 PE wr u12 u16 u18 u20 u21 u22 u23 u24 u26 u27 u28 u29 u30 u31 u32 u33 u34 u35 u36 u37 u38 u39 u40 u41 u42 u43 u44 u46 u47 u48 u49 u50 u51 u52 u53 u54 u55 u56 u57 u58 u83 u84 u85 u86 u87 u88 u89 u90 u91 u92 u93 u94 u95 u96 u97 u98 u99 u100 u101 u102 u103 u104 u105 u106 u107 u108 u109 u110 u111 u112 u113 u114 u115 u116 u117 u118 u119 u120 u121 u122 u123 u124 u125 u126 u127 u128 u129 u130 u131 u132 u133 u134 u135 u136 u137 u138 u139 u140 u141 u142 u143 u144 u145 u146 u147 u148 u149 u150 u151 u152 u153 u154 u155 u156 u157 u158 u159 u160 u161 u162 u163 u164 u165 u166 u167 u168 u169 u170 u171 u172 u173 u174 u175 u176 u177 u178 u179 u180 u181 u182 u183 u184 u185 u186 u187 u188 u189 u190 u191 u192 u193 u194 u195 u196 u197 u198 u199 u200 u201 u202 u203 u204 u205 u206 u207 u208 u209 u210 u211 u212 u213 u214 u215 u216 u217 u218 u219 u220 u221 u222 u223 u224 u225 u226 u227 u228 u229 u230 u231 u232 u233 u234 u235 u236 u237 u238 u239 u240 u241 u242 u243 u244 u245 u246 u247 u248 u249 u250 u251 u252 u253 u254 u255 u256 u257 u258 u259 u260 u261 u262 u263 u264 u265 u266 u267 u268 u269 u270 u271 u272 u273 u274 u275 u276 u277 u278 u279 u280 u281 u282 u283 u284 u285 u286 u287 u288 u289 u290 u291 u292 u293 u294 u295 u296 u297 u298 u299 u300 u301 u302 u303 u304 u305 u306 u307 u308 u309 u310 u311 u312 u313 u314 u315 u316 u317 u318 u319 u320 u321 u322 u323 u324 jo hjo hj3 rx ry bjo rb1i0 rb1i1 rb1i2 rb1i3 rb1i4 rb1i5 rb1i6 wB bX PX O1 NX
          exact hck_rb1.out
        · obtain rfl : jo = 3 := by omega
          revert a0 len0 cap0 z0 rn rd st kx xx fx w w0 SN wb b7 B0 ra1i0 hs wd g wc n d ra1i1 ra1i2 ra1i3 wA b14 σ wx bP yn yd NP wE ra1i6 D1 PE wr u12 u16 u18 u20 u21 u22 u23 u24 u26 u27 u28 u29 u30 u31 u32 u33 u34 u35 u36 u37 u38 u39 u40 u41 u42 u43 u44 u46 u47 u48 u49 u50 u51 u52 u53 u54 u55 u56 u57 u58 u83 u84 u85 u86 u87 u88 u89 u90 u91 u92 u93 u94 u95 u96 u97 u98 u99 u100 u101 u102 u103 u104 u105 u106 u107 u108 u109 u110 u111 u112 u113 u114 u115 u116 u117 u118 u119 u120 u121 u122 u123 u124 u125 u126 u127 u128 u129 u130 u131 u132 u133 u134 u135 u136 u137 u138 u139 u140 u141 u142 u143 u144 u145 u146 u147 u148 u149 u150 u151 u152 u153 u154 u155 u156 u157 u158 u159 u160 u161 u162 u163 u164 u165 u166 u167 u168 u169 u170 u171 u172 u173 u174 u175 u176 u177 u178 u179 u180 u181 u182 u183 u184 u185 u186 u187 u188 u189 u190 u191 u192 u193 u194 u195 u196 u197 u198 u199 u200 u201 u202 u203 u204 u205 u206 u207 u208 u209 u210 u211 u212 u213 u214 u215 u216 u217 u218 u219 u220 u221 u222 u223 u224 u225 u226 u227 u228 u229 u230 u231 u232 u233 u234 u235 u236 u237 u238 u239 u240 u241 u242 u243 u244 u245 u246 u247 u248 u249 u250 u251 u252 u253 u254 u255 u256 u257 u258 u259 u260 u261 u262 u263 u264 u265 u266 u267 u268 u269 u270 u271 u272 u273 u274 u275 u276 u277 u278 u279 u280 u281 u282 u283 u284 u285 u286 u287 u288 u289 u290 u291 u292 u293 u294 u295 u296 u297 u298 u299 u300 u301 u302 u303 u304 u305 u306 u307 u308 u309 u310 u311 u312 u313 u314 u315 u316 u317 u318 u319 u320 u321 u322 u323 u324 O hjo hj3
          exact hck_rz1.out
set_option maxHeartbeats 16000000 in
set_option maxRecDepth 100000 in
noncomputable def ck_rb1 : (P_rc1 : Prop) ×' (P_re1 : Prop) ×' (Ckp P_rc1 → Ckp P_re1 → ck_ra1.1) := by
  apply PSigma.mk
  case snd =>
    apply PSigma.mk
    case snd =>
      intro hck_rc1 hck_re1
      intro a0 len0 cap0 z0 rn rd st kx xx fx w w0 SN wb
        b7 B0 ra1i0 hs wd g wc n d ra1i1 ra1i2 ra1i3 wA b14
        σ wx bP yn yd NP wE ra1i6 D1 PE wr u12 u16 u18
        u20 u21 u22 u23 u24 u26 u27 u28 u29 u30 u31 u32 u33 u34
        u35 u36 u37 u38 u39 u40 u41 u42 u43 u44 u46 u47 u48 u49
        u50 u51 u52 u53 u54 u55 u56 u57 u58 u83 u84 u85 u86 u87
        u88 u89 u90 u91 u92 u93 u94 u95 u96 u97 u98 u99 u100 u101
        u102 u103 u104 u105 u106 u107 u108 u109 u110 u111 u112 u113 u114 u115
        u116 u117 u118 u119 u120 u121 u122 u123 u124 u125 u126 u127 u128 u129
        u130 u131 u132 u133 u134 u135 u136 u137 u138 u139 u140 u141 u142 u143
        u144 u145 u146 u147 u148 u149 u150 u151 u152 u153 u154 u155 u156 u157
        u158 u159 u160 u161 u162 u163 u164 u165 u166 u167 u168 u169 u170 u171
        u172 u173 u174 u175 u176 u177 u178 u179 u180 u181 u182 u183 u184 u185
        u186 u187 u188 u189 u190 u191 u192 u193 u194 u195 u196 u197 u198 u199
        u200 u201 u202 u203 u204 u205 u206 u207 u208 u209 u210 u211 u212 u213
        u214 u215 u216 u217 u218 u219 u220 u221 u222 u223 u224 u225 u226 u227
        u228 u229 u230 u231 u232 u233 u234 u235 u236 u237 u238 u239 u240 u241
        u242 u243 u244 u245 u246 u247 u248 u249 u250 u251 u252 u253 u254 u255
        u256 u257 u258 u259 u260 u261 u262 u263 u264 u265 u266 u267 u268 u269
        u270 u271 u272 u273 u274 u275 u276 u277 u278 u279 u280 u281 u282 u283
        u284 u285 u286 u287 u288 u289 u290 u291 u292 u293 u294 u295 u296 u297
        u298 u299 u300 u301 u302 u303 u304 u305 u306 u307 u308 u309 u310 u311
        u312 u313 u314 u315 u316 u317 u318 u319 u320 u321 u322 u323 u324 jo
        hjo hj3 rx ry bjo rb1i0 rb1i1 rb1i2 rb1i3 rb1i4 rb1i5 rb1i6 wB bX
        PX O1 NX

      obtain ⟨vv, VA, VB⟩ := valid_same rx ry
      replace VA := Lib.hid VA
      replace VB := Lib.hid VB
      have KX := Lib.hid fun wz (hb : Below wB.heap.size wB wz) => cells2 (hop hb PX.out)
      have d1 : (vv != vv) = false := by simp
      go_cut [90] from 86 to 89 (fun s wx => s = .bool false ∧ ∃ wz, wz = wx ∧ Hid (Below wB.heap.size wB wz))
      case first =>
        refine Buf.region_calm wB (by kernel_rfl) (by kernel_rfl) (Below.refl _ _) ?_
        repeat (go_big_quiet_step ((intro hC; first
          | (go_at_call 11; with_reducible exact Buf.calm hC (VA.out _))
          | (go_at_call 12; with_reducible exact Buf.calm hC (VB.out _))
          | rfl
          | (simp only [(KX.out _ hC).1, (KX.out _ hC).2, Result.andThen_ok]; exact ⟨trivial, rfl⟩))))
        refine wpQuiet_nil ?_
        intro w8 hb
        go_wp2_with fail
        go_meet
        exact ⟨rfl, _, rfl, Lib.hid hb⟩
      case rest =>
        obtain ⟨rfl, wD, rfl, hbb⟩ := hcut
        have L1 := Lib.hid ((Dice.Left.refl O1.out.di).below hbb.out)
        have hI := ints_alloc wD [0, 9007199254740992, 9007199254740993, -1] 3
        clear VA VB KX d1 hbb
        go_wp2_with fail
        refine (pick_any wD.heap.size [0, 9007199254740992, 9007199254740993, -1] 4 4 (L1.out.di.below (new_block _)) hI rfl (by omega) (by omega) (by have := L1.out.di.lt; omega) (by simp)).mono ?_
        rintro e w6 ⟨⟨s2, rfl, _⟩, hl⟩
        have L2 := Lib.hid ((L1.out.below (new_block _)).trans hl)
        clear hl hI L1
        go_upto_region 11 with fail
        obtain ⟨wF, hwF⟩ : ∃ wz, wz = w6.alloc (.cells #[.int .i64 st, .int .i64 1000000000000, .int .i64 s2] 3) := ⟨_, rfl⟩
        obtain ⟨bF, hbF⟩ : ∃ bz, bz = w6.heap.size := ⟨_, rfl⟩
        have hb : Below w6.heap.size w6 wF := by rw [hwF]; exact new_block _
        have PF := Lib.hid (show wF.heap[bF]? = some (.cells #[.int .i64 st, .int .i64 1000000000000, .int .i64 s2] 3 (0, 0)) by rw [hwF, hbF]; exact heap_alloc_new w6 _)
        have NF : bF ≠ g := by have := L2.out.di.lt; omega
        replace L2 := Lib.hid (L2.out.below hb)
        rw [← hwF, ← hbF]
        clear hwF hbF hb

        have O4 := Lib.hid (O1.out.trans L2.out)
        replace PX := Lib.hid (far L2.out NX PX.out)
        clear L2 O1
        have hL0 := Lib.hid (Dice.Left.refl O4.out.di)
        go_loopw [97] (fun i wr => ∃ j : Nat, j ≤ 3 ∧ i = .int .i64 j ∧ Hid (Dice.Left wb wF wr g a0 len0 cap0 z0)) (fun i _ => (3 - intOf i).toNat)
        case atStart => exact ⟨0, by omega, rfl, hL0⟩
        case round =>
          clear hL0
          obtain ⟨jm, hjm, rfl, O⟩ := hrel
          by_cases hj4 : jm < 3
          · have PW := far O.out NF PF.out
            obtain ⟨sv, cp⟩ : ∃ x : Int, wr.cell? ⟨bF, jm, none⟩ = some (.int .i64 x) := by
              rcases (show jm = 0 ∨ jm = 1 ∨ jm = 2 by omega) with rfl | rfl | rfl
              · exact ⟨_, cell_of_row wr bF 0 _ _ _ PW⟩
              · exact ⟨_, cell_of_row wr bF 1 _ _ _ PW⟩
              · exact ⟨_, cell_of_row wr bF 2 _ _ _ PW⟩
            have bjm : (jm : Int) < 3 := by omega
            clear PW
            go_wp2_with fail
            refine (next_any 100 O.out.di (by omega) (by omega)).mono ?_
            rintro e w7 ⟨⟨q1, rfl, _, _⟩, hl⟩
            have O5 := Lib.hid (O.out.trans hl)
            clear hl O cp
            go_upto_region 14 with fail
            obtain ⟨wG, hwG⟩ : ∃ wz, wz = w7.alloc (.cells #[.int .i64 kx, .int .i64 q1, .int .i64 16777216, .int .i64 16777217, .int .i64 (-1)] 3) := ⟨_, rfl⟩
            obtain ⟨bG, hbG⟩ : ∃ bz, bz = w7.heap.size := ⟨_, rfl⟩
            have hb : Below w7.heap.size w7 wG := by rw [hwG]; exact new_block _
            have PG := Lib.hid (show wG.heap[bG]? = some (.cells #[.int .i64 kx, .int .i64 q1, .int .i64 16777216, .int .i64 16777217, .int .i64 (-1)] 3 (0, 0)) by rw [hwG, hbG]; exact heap_alloc_new w7 _)
            replace O5 := Lib.hid (O5.out.below hb)
            rw [← hwG, ← hbG]
            clear hwG hbG hb

            have PX5 := Lib.hid (far O5.out NX PX.out)
            have B5 := Lib.hid (Below.refl wG.heap.size wG)
            go_loopw [106] (fun i wr => ∃ j : Nat, j ≤ 5 ∧ i = .int .i64 j ∧ Hid (Below wG.heap.size wG wr)) (fun i _ => (5 - intOf i).toNat)
            case atStart => exact ⟨0, by omega, rfl, B5⟩
            case round =>
              clear B5
              obtain ⟨ji, hji, rfl, BC⟩ := hrel
              by_cases hj5 : ji < 5
              · have PW := hop BC.out PG.out
                obtain ⟨kv, cp⟩ : ∃ x : Int, wr.cell? ⟨bG, ji, none⟩ = some (.int .i64 x) := by
                  rcases (show ji = 0 ∨ ji = 1 ∨ ji = 2 ∨ ji = 3 ∨ ji = 4 by omega) with rfl | rfl | rfl | rfl | rfl
                  · exact ⟨_, cell_of_row wr bG 0 _ _ _ PW⟩
                  · exact ⟨_, cell_of_row wr bG 1 _ _ _ PW⟩
                  · exact ⟨_, cell_of_row wr bG 2 _ _ _ PW⟩
                  · exact ⟨_, cell_of_row wr bG 3 _ _ _ PW⟩
                  · exact ⟨_, cell_of_row wr bG 4 _ _ _ PW⟩
                have bji : (ji : Int) < 5 := by omega
                obtain ⟨av, ev, TA, TB⟩ := time_same sv rx ry kv
                replace TA := Lib.hid TA
                replace TB := Lib.hid TB
                have d1 : (av != av) = false := by simp
                have d2 : (ev != ev) = false := by simp
                clear PW
                obtain ⟨k0, k1⟩ := cells2 (hop BC.out PX5.out)
                go_wp2_with fail
                with_reducible refine (TA.out _).mono ?_
                rintro e w8 ⟨rfl, hb⟩
                replace BC := Lib.hid (Buf.then_ BC.out hb)
                clear hb k0 k1
                obtain ⟨k0, k1⟩ := cells2 (hop BC.out PX5.out)
                go_wp2_with fail
                with_reducible refine (TB.out _).mono ?_
                rintro e w9 ⟨rfl, hb⟩
                replace BC := Lib.hid (Buf.then_ BC.out hb)
                clear hb k0 k1
                go_wp2_with fail
                go_roundw
                case rel => exact ⟨ji + 1, by omega, by go_num, BC⟩
                case measure => simp [intOf]; omega
              · obtain rfl : ji = 5 := by omega
                replace O5 := Lib.hid (O5.out.below BC.out)
                clear PX5 PG BC hj5 hji
                rename_i rc1i0 rc1i1 rc1i2 rc1i3 rc1i4 rc1i5 rc1i6 rc1i7 rc1i8 rc1i9 rc1i10 rc1i11 rc1i12 rc1i13 rc1i14 rc1i15 rc1i16 rc1i17 rc1i18 rc1i19 rc1i20 rc1i21 rc1i22 rc1i23 rc1i24 rc1i25 rc1i26 rc1i27 rc1i28 rc1i29 rc1i30 rc1i31 rc1i32 rc1i33 rc1i34 rc1i35 rc1i36 rc1i37 rc1i38 rc1i39 rc1i40 rc1i41 rc1i42 rc1i43 rc1i44 rc1i45 rc1i46 rc1i47 rc1i48 rc1i49 rc1i50 rc1i51 rc1i52 rc1i53 rc1i54 rc1i55 rc1i56 rc1i57 rc1i58 rc1i59 rc1i60 rc1i61 rc1i62 rc1i63 rc1i64 rc1i65 rc1i66 rc1i67 rc1i68 rc1i69 rc1i70 rc1i71 rc1i72 rc1i73 rc1i74 rc1i75 rc1i76 rc1i77 rc1i78 rc1i79 rc1i80 rc1i81 rc1i82 rc1i83 rc1i84 rc1i85 rc1i86 rc1i87 rc1i88 rc1i89 rc1i90 rc1i91 rc1i92 rc1i93 rc1i94 rc1i95 rc1i96 rc1i97 rc1i98 rc1i99 rc1i100 rc1i101 rc1i102 rc1i103 rc1i104 rc1i105 rc1i106 rc1i107 rc1i108 rc1i109 rc1i110 rc1i111 rc1i112 rc1i113 rc1i114 rc1i115 rc1i116 rc1i117 rc1i118 rc1i119 rc1i120 rc1i121 rc1i122 rc1i123 rc1i124 rc1i125 rc1i126 rc1i127 rc1i128 rc1i129 rc1i130 rc1i131 rc1i132 rc1i133 rc1i134 rc1i135 rc1i136 rc1i137 rc1i138 rc1i139 rc1i140 rc1i141 rc1i142 rc1i143 rc1i144 rc1i145 rc1i146 rc1i147 rc1i148 rc1i149 rc1i150 rc1i151 rc1i152 rc1i153 rc1i154 rc1i155 rc1i156 rc1i157 rc1i158 rc1i159 rc1i160 rc1i161 rc1i162 rc1i163 rc1i164 rc1i165 rc1i166 rc1i167 rc1i168 rc1i169 rc1i170 rc1i171 rc1i172 rc1i173 rc1i174 rc1i175 rc1i176 rc1i177 rc1i178 rc1i179 rc1i180 rc1i181 rc1i182 rc1i183 rc1i184 rc1i185 rc1i186 rc1i187 rc1i188 rc1i189 rc1i190 rc1i191 rc1i192 rc1i193 rc1i194 rc1i195 rc1i196 rc1i197 rc1i198 rc1i199 rc1i200 rc1i201 rc1i202 rc1i203 rc1i204 rc1i205 rc1i206 rc1i207 rc1i208 rc1i209 rc1i210 rc1i211 rc1i212 rc1i213 rc1i214 rc1i215 rc1i216 rc1i217 rc1i218 rc1i219 rc1i220 rc1i221 rc1i222
                revert a0 len0 cap0 z0 rn rd st kx xx fx w w0 SN wb b7 B0 ra1i0 hs wd g wc n d ra1i1 ra1i2 ra1i3 wA b14 σ wx bP yn yd NP wE ra1i6 D1 PE rc1i0 rc1i1 u16 rc1i2 rc1i3 rc1i4 rc1i5 rc1i6 rc1i7 rc1i8 rc1i9 rc1i10 rc1i11 rc1i12 rc1i13 rc1i14 rc1i15 rc1i16 rc1i17 rc1i18 rc1i19 rc1i20 rc1i21 rc1i22 rc1i23 rc1i24 rc1i25 rc1i26 u46 u47 u48 u49 u50 u51 u52 u53 u54 u55 u56 u57 u58 u83 u84 u85 rc1i27 rc1i28 rc1i29 rc1i30 u90 u91 u92 u93 u94 u95 u96 u97 rc1i31 rc1i32 rc1i33 rc1i34 rc1i35 rc1i36 rc1i37 rc1i38 rc1i39 rc1i40 rc1i41 rc1i42 rc1i43 rc1i44 rc1i45 rc1i46 rc1i47 rc1i48 rc1i49 rc1i50 rc1i51 rc1i52 rc1i53 rc1i54 rc1i55 rc1i56 rc1i57 rc1i58 rc1i59 rc1i60 rc1i61 rc1i62 rc1i63 rc1i64 rc1i65 rc1i66 rc1i67 rc1i68 rc1i69 rc1i70 rc1i71 rc1i72 rc1i73 rc1i74 rc1i75 rc1i76 rc1i77 rc1i78 rc1i79 rc1i80 rc1i81 rc1i82 rc1i83 rc1i84 rc1i85 rc1i86 rc1i87 rc1i88 rc1i89 rc1i90 rc1i91 rc1i92 rc1i93 rc1i94 rc1i95 rc1i96 rc1i97 rc1i98 rc1i99 rc1i100 rc1i101 rc1i102 rc1i103 rc1i104 rc1i105 rc1i106 rc1i107 rc1i108 rc1i109 rc1i110 rc1i111 rc1i112 rc1i113 rc1i114 rc1i115 rc1i116 rc1i117 rc1i118 rc1i119 rc1i120 rc1i121 rc1i122 rc1i123 rc1i124 rc1i125 rc1i126 rc1i127 rc1i128 rc1i129 rc1i130 rc1i131 rc1i132 rc1i133 rc1i134 rc1i135 rc1i136 rc1i137 rc1i138 rc1i139 rc1i140 rc1i141 rc1i142 rc1i143 rc1i144 rc1i145 rc1i146 rc1i147 rc1i148 rc1i149 rc1i150 rc1i151 rc1i152 rc1i153 rc1i154 rc1i155 rc1i156 rc1i157 rc1i158 rc1i159 rc1i160 rc1i161 rc1i162 rc1i163 rc1i164 rc1i165 rc1i166 rc1i167 rc1i168 rc1i169 rc1i170 rc1i171 rc1i172 rc1i173 rc1i174 rc1i175 rc1i176 rc1i177 rc1i178 rc1i179 u247 u248 u249 u250 u251 u252 u253 u254 u255 u256 u257 u258 u259 u260 u261 u262 u263 u264 u265 u266 u267 u268 u269 u270 u271 u272 u273 u274 u275 u276 u277 u278 u279 u280 u281 u282 u283 u284 u285 u286 u287 u288 u289 u290 u291 u292 u293 u294 u295 u296 u297 u298 u299 u300 u301 u302 u303 u304 u305 u306 u307 u308 u309 u310 u311 u312 u313 u314 u315 u316 u317 u318 u319 u320 u321 u322 u323 u324 jo hjo hj3 rx ry bjo rb1i0 rb1i1 rb1i2 wB bX NX vv u86 u87 u88 u89 wD rc1i180 rc1i181 w6 s2 rc1i182 wF bF PF NF O4 PX rc1i183 rc1i184 u18 rc1i185 rc1i186 rc1i187 rc1i188 rc1i189 u26 u27 u28 u29 u30 u31 u32 u33 u34 u35 u36 u37 u38 u39 u40 u41 u42 u43 u44 u98 u99 u100 u101 u102 u103 u104 u105 u106 rc1i190 rc1i191 rc1i192 rc1i193 rc1i194 rc1i195 rc1i196 rc1i197 rc1i198 rc1i199 rc1i200 rc1i201 rc1i202 rc1i203 rc1i204 rc1i205 rc1i206 rc1i207 rc1i208 rc1i209 rc1i210 rc1i211 rc1i212 rc1i213 rc1i214 rc1i215 u133 u134 u135 u136 u137 u138 u139 u140 u141 u142 u143 u144 u145 u146 u147 u148 u149 u150 u151 u152 u153 u154 u155 u156 u157 u158 u159 u160 u161 u162 u163 u164 u165 u166 u167 u168 u169 u170 u171 u172 u173 u174 u175 u176 u177 u178 u179 u180 u181 u182 u183 u184 u185 u186 u187 u188 u189 u190 u191 u192 u193 u194 u195 u196 u197 u198 u199 u200 u201 u202 u203 u204 u205 u206 u207 u208 u209 u210 u211 u212 u213 u214 u215 u216 u217 u218 u219 u220 u221 u222 u223 u224 u225 u226 u227 u228 u229 u230 u231 u232 u233 u234 u235 u236 u237 u238 u239 u240 u241 u242 u243 u244 u245 u246 jm hjm hj4 sv bjm rc1i216 rc1i217 rc1i218 rc1i219 rc1i220 w7 q1 rc1i221 rc1i222 wG bG wr u12 u20 u21 u22 u23 u24 u107 u108 u109 u110 u111 u112 u113 u114 u115 u116 u117 u118 u119 u120 u121 u122 u123 u124 u125 u126 u127 u128 u129 u130 u131 u132 O5
                exact hck_rc1.out
          · obtain rfl : jm = 3 := by omega
            replace O4 := Lib.hid (O4.out.trans O.out)
            replace PX := Lib.hid (far O.out NX PX.out)
            clear O PF NF hj4 hjm
            rename_i re1i0 re1i1 re1i2 re1i3 re1i4 re1i5 re1i6 re1i7 re1i8 re1i9 re1i10 re1i11 re1i12 re1i13 re1i14 re1i15 re1i16 re1i17 re1i18 re1i19 re1i20 re1i21 re1i22 re1i23 re1i24 re1i25 re1i26 re1i27 re1i28 re1i29 re1i30 re1i31 re1i32 re1i33 re1i34 re1i35 re1i36 re1i37 re1i38 re1i39 re1i40 re1i41 re1i42 re1i43 re1i44 re1i45 re1i46 re1i47 re1i48 re1i49 re1i50 re1i51 re1i52 re1i53 re1i54 re1i55 re1i56 re1i57 re1i58 re1i59 re1i60 re1i61 re1i62 re1i63 re1i64 re1i65 re1i66 re1i67 re1i68 re1i69 re1i70 re1i71 re1i72 re1i73 re1i74 re1i75 re1i76 re1i77 re1i78 re1i79 re1i80 re1i81 re1i82 re1i83 re1i84 re1i85 re1i86 re1i87 re1i88 re1i89 re1i90 re1i91 re1i92 re1i93 re1i94 re1i95 re1i96 re1i97 re1i98 re1i99 re1i100 re1i101 re1i102 re1i103 re1i104 re1i105 re1i106 re1i107 re1i108 re1i109 re1i110 re1i111 re1i112 re1i113 re1i114 re1i115 re1i116 re1i117 re1i118 re1i119 re1i120 re1i121 re1i122 re1i123 re1i124 re1i125 re1i126 re1i127 re1i128 re1i129 re1i130 re1i131 re1i132 re1i133 re1i134 re1i135 re1i136 re1i137 re1i138 re1i139 re1i140 re1i141 re1i142 re1i143 re1i144 re1i145 re1i146 re1i147 re1i148 re1i149 re1i150 re1i151 re1i152 re1i153 re1i154 re1i155 re1i156 re1i157 re1i158 re1i159 re1i160 re1i161 re1i162 re1i163 re1i164 re1i165 re1i166 re1i167 re1i168 re1i169 re1i170 re1i171 re1i172 re1i173 re1i174 re1i175 re1i176 re1i177 re1i178 re1i179 re1i180 re1i181 re1i182
            revert a0 len0 cap0 z0 rn rd st kx xx fx w w0 SN wb b7 B0 ra1i0 hs wd g wc n d ra1i1 ra1i2 ra1i3 wA b14 σ wx bP yn yd NP wE ra1i6 D1 PE re1i0 re1i1 u16 re1i2 re1i3 re1i4 re1i5 re1i6 re1i7 re1i8 re1i9 re1i10 re1i11 re1i12 re1i13 re1i14 re1i15 re1i16 re1i17 re1i18 re1i19 re1i20 re1i21 re1i22 re1i23 re1i24 re1i25 re1i26 u46 u47 u48 u49 u50 u51 u52 u53 u54 u55 u56 u57 u58 u83 u84 u85 re1i27 re1i28 re1i29 re1i30 u90 u91 u92 u93 u94 u95 u96 u97 re1i31 re1i32 re1i33 re1i34 re1i35 re1i36 re1i37 re1i38 re1i39 re1i40 re1i41 re1i42 re1i43 re1i44 re1i45 re1i46 re1i47 re1i48 re1i49 re1i50 re1i51 re1i52 re1i53 re1i54 re1i55 re1i56 re1i57 re1i58 re1i59 re1i60 re1i61 re1i62 re1i63 re1i64 re1i65 re1i66 re1i67 re1i68 re1i69 re1i70 re1i71 re1i72 re1i73 re1i74 re1i75 re1i76 re1i77 re1i78 re1i79 re1i80 re1i81 re1i82 re1i83 re1i84 re1i85 re1i86 re1i87 re1i88 re1i89 re1i90 re1i91 re1i92 re1i93 re1i94 re1i95 re1i96 re1i97 re1i98 re1i99 re1i100 re1i101 re1i102 re1i103 re1i104 re1i105 re1i106 re1i107 re1i108 re1i109 re1i110 re1i111 re1i112 re1i113 re1i114 re1i115 re1i116 re1i117 re1i118 re1i119 re1i120 re1i121 re1i122 re1i123 re1i124 re1i125 re1i126 re1i127 re1i128 re1i129 re1i130 re1i131 re1i132 re1i133 re1i134 re1i135 re1i136 re1i137 re1i138 re1i139 re1i140 re1i141 re1i142 re1i143 re1i144 re1i145 re1i146 re1i147 re1i148 re1i149 re1i150 re1i151 re1i152 re1i153 re1i154 re1i155 re1i156 re1i157 re1i158 re1i159 re1i160 re1i161 re1i162 re1i163 re1i164 re1i165 re1i166 re1i167 re1i168 re1i169 re1i170 re1i171 re1i172 re1i173 re1i174 re1i175 re1i176 re1i177 re1i178 re1i179 u247 u248 u249 u250 u251 u252 u253 u254 u255 u256 u257 u258 u259 u260 u261 u262 u263 u264 u265 u266 u267 u268 u269 u270 u271 u272 u273 u274 u275 u276 u277 u278 u279 u280 u281 u282 u283 u284 u285 u286 u287 u288 u289 u290 u291 u292 u293 u294 u295 u296 u297 u298 u299 u300 u301 u302 u303 u304 u305 u306 u307 u308 u309 u310 u311 u312 u313 u314 u315 u316 u317 u318 u319 u320 u321 u322 u323 u324 jo hjo hj3 rx ry bjo rb1i0 rb1i1 rb1i2 wB bX NX vv u86 u87 u88 u89 wD re1i180 re1i181 w6 s2 re1i182 wF bF wr u12 u18 u20 u21 u22 u23 u24 u26 u27 u28 u29 u30 u31 u32 u33 u34 u35 u36 u37 u38 u39 u40 u41 u42 u43 u44 u98 u99 u100 u101 u102 u103 u104 u105 u106 u107 u108 u109 u110 u111 u112 u113 u114 u115 u116 u117 u118 u119 u120 u121 u122 u123 u124 u125 u126 u127 u128 u129 u130 u131 u132 u133 u134 u135 u136 u137 u138 u139 u140 u141 u142 u143 u144 u145 u146 u147 u148 u149 u150 u151 u152 u153 u154 u155 u156 u157 u158 u159 u160 u161 u162 u163 u164 u165 u166 u167 u168 u169 u170 u171 u172 u173 u174 u175 u176 u177 u178 u179 u180 u181 u182 u183 u184 u185 u186 u187 u188 u189 u190 u191 u192 u193 u194 u195 u196 u197 u198 u199 u200 u201 u202 u203 u204 u205 u206 u207 u208 u209 u210 u211 u212 u213 u214 u215 u216 u217 u218 u219 u220 u221 u222 u223 u224 u225 u226 u227 u228 u229 u230 u231 u232 u233 u234 u235 u236 u237 u238 u239 u240 u241 u242 u243 u244 u245 u246 O4 PX
            exact hck_re1.out
set_option maxHeartbeats 16000000 in
set_option maxRecDepth 100000 in
theorem ck_rc1 : ck_rb1.1 := by
  intro a0 len0 cap0 z0 rn rd st kx xx fx w w0 SN wb
    b7 B0 ra1i0 hs wd g wc n d ra1i1 ra1i2 ra1i3 wA b14
    σ wx bP yn yd NP wE ra1i6 D1 PE rc1i0 rc1i1 u16 rc1i2
    rc1i3 rc1i4 rc1i5 rc1i6 rc1i7 rc1i8 rc1i9 rc1i10 rc1i11 rc1i12 rc1i13 rc1i14 rc1i15 rc1i16
    rc1i17 rc1i18 rc1i19 rc1i20 rc1i21 rc1i22 rc1i23 rc1i24 rc1i25 rc1i26 u46 u47 u48 u49
    u50 u51 u52 u53 u54 u55 u56 u57 u58 u83 u84 u85 rc1i27 rc1i28
    rc1i29 rc1i30 u90 u91 u92 u93 u94 u95 u96 u97 rc1i31 rc1i32 rc1i33 rc1i34
    rc1i35 rc1i36 rc1i37 rc1i38 rc1i39 rc1i40 rc1i41 rc1i42 rc1i43 rc1i44 rc1i45 rc1i46 rc1i47 rc1i48
    rc1i49 rc1i50 rc1i51 rc1i52 rc1i53 rc1i54 rc1i55 rc1i56 rc1i57 rc1i58 rc1i59 rc1i60 rc1i61 rc1i62
    rc1i63 rc1i64 rc1i65 rc1i66 rc1i67 rc1i68 rc1i69 rc1i70 rc1i71 rc1i72 rc1i73 rc1i74 rc1i75 rc1i76
    rc1i77 rc1i78 rc1i79 rc1i80 rc1i81 rc1i82 rc1i83 rc1i84 rc1i85 rc1i86 rc1i87 rc1i88 rc1i89 rc1i90
    rc1i91 rc1i92 rc1i93 rc1i94 rc1i95 rc1i96 rc1i97 rc1i98 rc1i99 rc1i100 rc1i101 rc1i102 rc1i103 rc1i104
    rc1i105 rc1i106 rc1i107 rc1i108 rc1i109 rc1i110 rc1i111 rc1i112 rc1i113 rc1i114 rc1i115 rc1i116 rc1i117 rc1i118
    rc1i119 rc1i120 rc1i121 rc1i122 rc1i123 rc1i124 rc1i125 rc1i126 rc1i127 rc1i128 rc1i129 rc1i130 rc1i131 rc1i132
    rc1i133 rc1i134 rc1i135 rc1i136 rc1i137 rc1i138 rc1i139 rc1i140 rc1i141 rc1i142 rc1i143 rc1i144 rc1i145 rc1i146
    rc1i147 rc1i148 rc1i149 rc1i150 rc1i151 rc1i152 rc1i153 rc1i154 rc1i155 rc1i156 rc1i157 rc1i158 rc1i159 rc1i160
    rc1i161 rc1i162 rc1i163 rc1i164 rc1i165 rc1i166 rc1i167 rc1i168 rc1i169 rc1i170 rc1i171 rc1i172 rc1i173 rc1i174
    rc1i175 rc1i176 rc1i177 rc1i178 rc1i179 u247 u248 u249 u250 u251 u252 u253 u254 u255
    u256 u257 u258 u259 u260 u261 u262 u263 u264 u265 u266 u267 u268 u269
    u270 u271 u272 u273 u274 u275 u276 u277 u278 u279 u280 u281 u282 u283
    u284 u285 u286 u287 u288 u289 u290 u291 u292 u293 u294 u295 u296 u297
    u298 u299 u300 u301 u302 u303 u304 u305 u306 u307 u308 u309 u310 u311
    u312 u313 u314 u315 u316 u317 u318 u319 u320 u321 u322 u323 u324 jo
    hjo hj3 rx ry bjo rb1i0 rb1i1 rb1i2 wB bX NX vv u86 u87
    u88 u89 wD rc1i180 rc1i181 w6 s2 rc1i182 wF bF PF NF O4 PX
    rc1i183 rc1i184 u18 rc1i185 rc1i186 rc1i187 rc1i188 rc1i189 u26 u27 u28 u29 u30 u31
    u32 u33 u34 u35 u36 u37 u38 u39 u40 u41 u42 u43 u44 u98
    u99 u100 u101 u102 u103 u104 u105 u106 rc1i190 rc1i191 rc1i192 rc1i193 rc1i194 rc1i195
    rc1i196 rc1i197 rc1i198 rc1i199 rc1i200 rc1i201 rc1i202 rc1i203 rc1i204 rc1i205 rc1i206 rc1i207 rc1i208 rc1i209
    rc1i210 rc1i211 rc1i212 rc1i213 rc1i214 rc1i215 u133 u134 u135 u136 u137 u138 u139 u140
    u141 u142 u143 u144 u145 u146 u147 u148 u149 u150 u151 u152 u153 u154
    u155 u156 u157 u158 u159 u160 u161 u162 u163 u164 u165 u166 u167 u168
    u169 u170 u171 u172 u173 u174 u175 u176 u177 u178 u179 u180 u181 u182
    u183 u184 u185 u186 u187 u188 u189 u190 u191 u192 u193 u194 u195 u196
    u197 u198 u199 u200 u201 u202 u203 u204 u205 u206 u207 u208 u209 u210
    u211 u212 u213 u214 u215 u216 u217 u218 u219 u220 u221 u222 u223 u224
    u225 u226 u227 u228 u229 u230 u231 u232 u233 u234 u235 u236 u237 u238
    u239 u240 u241 u242 u243 u244 u245 u246 jm hjm hj4 sv bjm rc1i216
    rc1i217 rc1i218 rc1i219 rc1i220 w7 q1 rc1i221 rc1i222 wG bG wr u12 u20 u21
    u22 u23 u24 u107 u108 u109 u110 u111 u112 u113 u114 u115 u116 u117
    u118 u119 u120 u121 u122 u123 u124 u125 u126 u127 u128 u129 u130 u131
    u132 O5

  go_wp2_with fail
  refine (next_any 2000000 O5.out.di (by omega) (by omega)).mono ?_
  rintro e w7 ⟨⟨q2, rfl, _, _⟩, hl⟩
  replace O5 := Lib.hid (O5.out.trans hl)
  clear hl
  go_upto_region 22 with fail
  obtain ⟨wH, hwH⟩ : ∃ wz, wz = w7.alloc (.cells #[.int .i64 xx, .int .i64 sv, .int .i64 (wrap64 (wrap64 (sv + q2) - 5)), .int .i64 18014398509481984, .int .i64 18014398509481985] 3) := ⟨_, rfl⟩
  obtain ⟨bH, hbH⟩ : ∃ bz, bz = w7.heap.size := ⟨_, rfl⟩
  have hb : Below w7.heap.size w7 wH := by rw [hwH]; exact new_block _
  have PH := Lib.hid (show wH.heap[bH]? = some (.cells #[.int .i64 xx, .int .i64 sv, .int .i64 (wrap64 (wrap64 (sv + q2) - 5)), .int .i64 18014398509481984, .int .i64 18014398509481985] 3 (0, 0)) by rw [hwH, hbH]; exact heap_alloc_new w7 _)
  replace O5 := Lib.hid (O5.out.below hb)
  rw [← hwH, ← hbH]
  clear hwH hbH hb
  have PX6 := Lib.hid (far O5.out NX PX.out)
  have B6 := Lib.hid (Below.refl wH.heap.size wH)
  go_loopw [142] (fun i wr => ∃ j : Nat, j ≤ 5 ∧ i = .int .i64 j ∧ Hid (Below wH.heap.size wH wr)) (fun i _ => (5 - intOf i).toNat)
  case atStart => exact ⟨0, by omega, rfl, B6⟩
  case round =>
    clear B6
    obtain ⟨ji, hji, rfl, BC⟩ := hrel
    by_cases hj5 : ji < 5
    · have PW := hop BC.out PH.out
      obtain ⟨tv, cp⟩ : ∃ x : Int, wr.cell? ⟨bH, ji, none⟩ = some (.int .i64 x) := by
        rcases (show ji = 0 ∨ ji = 1 ∨ ji = 2 ∨ ji = 3 ∨ ji = 4 by omega) with rfl | rfl | rfl | rfl | rfl
        · exact ⟨_, cell_of_row wr bH 0 _ _ _ PW⟩
        · exact ⟨_, cell_of_row wr bH 1 _ _ _ PW⟩
        · exact ⟨_, cell_of_row wr bH 2 _ _ _ PW⟩
        · exact ⟨_, cell_of_row wr bH 3 _ _ _ PW⟩
        · exact ⟨_, cell_of_row wr bH 4 _ _ _ PW⟩

      have bji : (ji : Int) < 5 := by omega
      clear PW
      obtain ⟨u1, u2, IA, IB⟩ := index_same sv rx ry tv
      replace IA := Lib.hid IA
      replace IB := Lib.hid IB
      have Du1 : (u1 != u1) = false := by simp
      have Du2 : (u2 != u2) = false := by simp
      obtain ⟨u3, u4, NA, NB⟩ := next_same sv rx ry tv
      replace NA := Lib.hid NA
      replace NB := Lib.hid NB
      have Du3 : (u3 != u3) = false := by simp
      have Du4 : (u4 != u4) = false := by simp
      obtain ⟨u5, u6, u7, EA, EB⟩ := nearest_same sv rx ry tv
      replace EA := Lib.hid EA
      replace EB := Lib.hid EB
      have Du5 : (u5 != u5) = false := by simp
      have Du6 : (u6 != u6) = false := by simp
      have Du7 : (u7 != u7) = false := by simp
      obtain ⟨u8, u9, MA, MB⟩ := number_same rx ry tv
      replace MA := Lib.hid MA
      replace MB := Lib.hid MB
      have Du8 : (u8 != u8) = false := by simp
      have Du9 : (u9 != u9) = false := by simp

      obtain ⟨k0, k1⟩ := cells2 (hop BC.out PX6.out)
      go_wp2_with fail
      with_reducible refine (IA.out _).mono ?_
      rintro e w10 ⟨rfl, hb⟩
      replace BC := Lib.hid (Buf.then_ BC.out hb)
      clear hb k0 k1
      obtain ⟨k0, k1⟩ := cells2 (hop BC.out PX6.out)
      go_wp2_with fail
      with_reducible refine (IB.out _).mono ?_
      rintro e w11 ⟨rfl, hb⟩
      replace BC := Lib.hid (Buf.then_ BC.out hb)
      clear hb k0 k1
      obtain ⟨k0, k1⟩ := cells2 (hop BC.out PX6.out)
      go_wp2_with fail
      with_reducible refine (NA.out _).mono ?_
      rintro e w12 ⟨rfl, hb⟩
      replace BC := Lib.hid (Buf.then_ BC.out hb)
      clear hb k0 k1
      obtain ⟨k0, k1⟩ := cells2 (hop BC.out PX6.out)
      go_wp2_with fail
      with_reducible refine (NB.out _).mono ?_
      rintro e w13 ⟨rfl, hb⟩
      replace BC := Lib.hid (Buf.then_ BC.out hb)
      clear hb k0 k1
      obtain ⟨k0, k1⟩ := cells2 (hop BC.out PX6.out)
      go_wp2_with fail
      with_reducible refine (EA.out _).mono ?_
      rintro e w14 ⟨rfl, hb⟩
      replace BC := Lib.hid (Buf.then_ BC.out hb)
      clear hb k0 k1
      obtain ⟨k0, k1⟩ := cells2 (hop BC.out PX6.out)
      go_wp2_with fail
      with_reducible refine (EB.out _).mono ?_
      rintro e w15 ⟨rfl, hb⟩
      replace BC := Lib.hid (Buf.then_ BC.out hb)
      clear hb k0 k1
      obtain ⟨k0, k1⟩ := cells2 (hop BC.out PX6.out)
      go_wp2_with fail
      with_reducible refine (MA.out _).mono ?_
      rintro e w16 ⟨rfl, hb⟩
      replace BC := Lib.hid (Buf.then_ BC.out hb)
      clear hb k0 k1
      obtain ⟨k0, k1⟩ := cells2 (hop BC.out PX6.out)
      go_wp2_with fail
      with_reducible refine (MB.out _).mono ?_
      rintro e w17 ⟨rfl, hb⟩
      replace BC := Lib.hid (Buf.then_ BC.out hb)
      clear hb k0 k1
      obtain ⟨k0, k1⟩ := cells2 (hop BC.out PX6.out)
      go_wp2_with fail
      go_roundw
      case rel => exact ⟨ji + 1, by omega, by go_num, BC⟩
      case measure => simp [intOf]; omega
    · obtain rfl : ji = 5 := by omega
      replace O5 := Lib.hid (O5.out.below BC.out)
      clear PX6 PH BC hj5 hji
      go_wp2_with fail
      go_roundw
      case rel => exact ⟨jm + 1, by omega, by go_num, O5⟩
      case measure => simp [intOf]; omega
set_option maxHeartbeats 16000000 in
set_option maxRecDepth 100000 in
theorem ck_re1 : ck_rb1.2.1 := by
  intro a0 len0 cap0 z0 rn rd st kx xx fx w w0 SN wb
    b7 B0 ra1i0 hs wd g wc n d ra1i1 ra1i2 ra1i3 wA b14
    σ wx bP yn yd NP wE ra1i6 D1 PE re1i0 re1i1 u16 re1i2
    re1i3 re1i4 re1i5 re1i6 re1i7 re1i8 re1i9 re1i10 re1i11 re1i12 re1i13 re1i14 re1i15 re1i16
    re1i17 re1i18 re1i19 re1i20 re1i21 re1i22 re1i23 re1i24 re1i25 re1i26 u46 u47 u48 u49
    u50 u51 u52 u53 u54 u55 u56 u57 u58 u83 u84 u85 re1i27 re1i28
    re1i29 re1i30 u90 u91 u92 u93 u94 u95 u96 u97 re1i31 re1i32 re1i33 re1i34
    re1i35 re1i36 re1i37 re1i38 re1i39 re1i40 re1i41 re1i42 re1i43 re1i44 re1i45 re1i46 re1i47 re1i48
    re1i49 re1i50 re1i51 re1i52 re1i53 re1i54 re1i55 re1i56 re1i57 re1i58 re1i59 re1i60 re1i61 re1i62
    re1i63 re1i64 re1i65 re1i66 re1i67 re1i68 re1i69 re1i70 re1i71 re1i72 re1i73 re1i74 re1i75 re1i76
    re1i77 re1i78 re1i79 re1i80 re1i81 re1i82 re1i83 re1i84 re1i85 re1i86 re1i87 re1i88 re1i89 re1i90
    re1i91 re1i92 re1i93 re1i94 re1i95 re1i96 re1i97 re1i98 re1i99 re1i100 re1i101 re1i102 re1i103 re1i104
    re1i105 re1i106 re1i107 re1i108 re1i109 re1i110 re1i111 re1i112 re1i113 re1i114 re1i115 re1i116 re1i117 re1i118
    re1i119 re1i120 re1i121 re1i122 re1i123 re1i124 re1i125 re1i126 re1i127 re1i128 re1i129 re1i130 re1i131 re1i132
    re1i133 re1i134 re1i135 re1i136 re1i137 re1i138 re1i139 re1i140 re1i141 re1i142 re1i143 re1i144 re1i145 re1i146
    re1i147 re1i148 re1i149 re1i150 re1i151 re1i152 re1i153 re1i154 re1i155 re1i156 re1i157 re1i158 re1i159 re1i160
    re1i161 re1i162 re1i163 re1i164 re1i165 re1i166 re1i167 re1i168 re1i169 re1i170 re1i171 re1i172 re1i173 re1i174
    re1i175 re1i176 re1i177 re1i178 re1i179 u247 u248 u249 u250 u251 u252 u253 u254 u255
    u256 u257 u258 u259 u260 u261 u262 u263 u264 u265 u266 u267 u268 u269
    u270 u271 u272 u273 u274 u275 u276 u277 u278 u279 u280 u281 u282 u283
    u284 u285 u286 u287 u288 u289 u290 u291 u292 u293 u294 u295 u296 u297
    u298 u299 u300 u301 u302 u303 u304 u305 u306 u307 u308 u309 u310 u311
    u312 u313 u314 u315 u316 u317 u318 u319 u320 u321 u322 u323 u324 jo
    hjo hj3 rx ry bjo rb1i0 rb1i1 rb1i2 wB bX NX vv u86 u87
    u88 u89 wD re1i180 re1i181 w6 s2 re1i182 wF bF wr u12 u18 u20
    u21 u22 u23 u24 u26 u27 u28 u29 u30 u31 u32 u33 u34 u35
    u36 u37 u38 u39 u40 u41 u42 u43 u44 u98 u99 u100 u101 u102
    u103 u104 u105 u106 u107 u108 u109 u110 u111 u112 u113 u114 u115 u116
    u117 u118 u119 u120 u121 u122 u123 u124 u125 u126 u127 u128 u129 u130
    u131 u132 u133 u134 u135 u136 u137 u138 u139 u140 u141 u142 u143 u144
    u145 u146 u147 u148 u149 u150 u151 u152 u153 u154 u155 u156 u157 u158
    u159 u160 u161 u162 u163 u164 u165 u166 u167 u168 u169 u170 u171 u172
    u173 u174 u175 u176 u177 u178 u179 u180 u181 u182 u183 u184 u185 u186
    u187 u188 u189 u190 u191 u192 u193 u194 u195 u196 u197 u198 u199 u200
    u201 u202 u203 u204 u205 u206 u207 u208 u209 u210 u211 u212 u213 u214
    u215 u216 u217 u218 u219 u220 u221 u222 u223 u224 u225 u226 u227 u228
    u229 u230 u231 u232 u233 u234 u235 u236 u237 u238 u239 u240 u241 u242
    u243 u244 u245 u246 O4 PX

  go_wp2_with fail
  refine (pick_any _ [1, 2, 64, 65, 0] 5 5 (O4.out.di.below (new_block _)) (ints_alloc _ [1, 2, 64, 65, 0] 3) rfl (by omega) (by omega) (by have := O4.out.di.lt; omega) (by simp)).mono ?_
  rintro e w7 ⟨⟨q2, rfl, _⟩, hl⟩
  have L2 := Lib.hid (((Dice.Left.refl O4.out.di).below (new_block _)).trans hl)
  clear hl
  go_upto_region 37 with fail
  obtain ⟨wH, hwH⟩ : ∃ wz, wz = w7.alloc (.cells #[.int .i64 fx, .int .i64 q2] 3) := ⟨_, rfl⟩
  obtain ⟨bH, hbH⟩ : ∃ bz, bz = w7.heap.size := ⟨_, rfl⟩
  have hb : Below w7.heap.size w7 wH := by rw [hwH]; exact new_block _
  have PH := Lib.hid (show wH.heap[bH]? = some (.cells #[.int .i64 fx, .int .i64 q2] 3 (0, 0)) by rw [hwH, hbH]; exact heap_alloc_new w7 _)
  replace L2 := Lib.hid (L2.out.below hb)
  rw [← hwH, ← hbH]
  clear hwH hbH hb
  have O6 := Lib.hid (O4.out.trans L2.out)
  have PX6 := Lib.hid (far L2.out NX PX.out)
  clear L2 O4 PX
  have B6 := Lib.hid (Below.refl wH.heap.size wH)
  go_loopw [253] (fun i wr => ∃ j : Nat, j ≤ 2 ∧ i = .int .i64 j ∧ Hid (Below wH.heap.size wH wr)) (fun i _ => (2 - intOf i).toNat)
  case atStart => exact ⟨0, by omega, rfl, B6⟩
  case round =>
    clear B6
    obtain ⟨ji, hji, rfl, BC⟩ := hrel
    by_cases hj5 : ji < 2
    · have PW := hop BC.out PH.out
      obtain ⟨fv, cp⟩ : ∃ x : Int, wr.cell? ⟨bH, ji, none⟩ = some (.int .i64 x) := by
        rcases (show ji = 0 ∨ ji = 1 by omega) with rfl | rfl
        · exact ⟨_, cell_of_row wr bH 0 _ _ _ PW⟩
        · exact ⟨_, cell_of_row wr bH 1 _ _ _ PW⟩

      have bji : (ji : Int) < 2 := by omega
      clear PW
      obtain ⟨u1, u2, u3, SA, SB⟩ := slower_same rx ry fv
      replace SA := Lib.hid SA
      replace SB := Lib.hid SB
      have Du1 : (u1 != u1) = false := by simp
      have Du2 : (u2 != u2) = false := by simp
      have Du3 : (u3 != u3) = false := by simp
      obtain ⟨u4, u5, MA, MB⟩ := samples_same rx ry (wrap64 (fv * 1000))
      replace MA := Lib.hid MA
      replace MB := Lib.hid MB
      have Du4 : (u4 != u4) = false := by simp
      have Du5 : (u5 != u5) = false := by simp
      obtain ⟨u6, u7, XA, XB⟩ := samples_same rx ry xx
      replace XA := Lib.hid XA
      replace XB := Lib.hid XB
      have Du6 : (u6 != u6) = false := by simp
      have Du7 : (u7 != u7) = false := by simp

      have E1 : (u1 == u1) = true := by simp
      have E2 : (u2 == u2) = true := by simp
      obtain ⟨k0, k1⟩ := cells2 (hop BC.out PX6.out)
      go_wp2_with fail
      with_reducible refine (SA.out _).mono ?_
      rintro e w10 ⟨rfl, hb⟩
      replace BC := Lib.hid (Buf.then_ BC.out hb)
      clear hb k0 k1
      go_upto_region 40 with fail
      obtain ⟨v1, hv1⟩ : ∃ wz, wz = w10.alloc (.cells #[.int .i64 u1, .int .i64 u2] 24) := ⟨_, rfl⟩
      obtain ⟨s1, hs1⟩ : ∃ bz, bz = w10.heap.size := ⟨_, rfl⟩
      have hb : Below w10.heap.size w10 v1 := by rw [hv1]; exact new_block _
      have Q1 := Lib.hid (show v1.heap[s1]? = some (.cells #[.int .i64 u1, .int .i64 u2] 24 (0, 0)) by rw [hv1, hs1]; exact heap_alloc_new w10 _)
      replace BC := Lib.hid (Buf.then_ BC.out hb)
      rw [← hv1, ← hs1]
      clear hv1 hs1 hb
      obtain ⟨k0, k1⟩ := cells2 (hop BC.out PX6.out)
      go_wp2_with fail
      with_reducible refine (SB.out _).mono ?_
      rintro e w11 ⟨rfl, hb⟩
      replace Q1 := Lib.hid (hop hb Q1.out)
      replace BC := Lib.hid (Buf.then_ BC.out hb)
      clear hb k0 k1
      go_upto_region 41 with fail
      obtain ⟨v2, hv2⟩ : ∃ wz, wz = w11.alloc (.cells #[.int .i64 u1, .int .i64 u2] 24) := ⟨_, rfl⟩
      obtain ⟨s2_, hs2_⟩ : ∃ bz, bz = w11.heap.size := ⟨_, rfl⟩
      have hb : Below w11.heap.size w11 v2 := by rw [hv2]; exact new_block _
      have Q2 := Lib.hid (show v2.heap[s2_]? = some (.cells #[.int .i64 u1, .int .i64 u2] 24 (0, 0)) by rw [hv2, hs2_]; exact heap_alloc_new w11 _)
      replace Q1 := Lib.hid (hop hb Q1.out)
      replace BC := Lib.hid (Buf.then_ BC.out hb)
      rw [← hv2, ← hs2_]
      clear hv2 hs2_ hb
      obtain ⟨k0, k1⟩ := cells2 (hop BC.out PX6.out)
      go_wp2_with fail
      with_reducible refine (MA.out _).mono ?_
      rintro e w20 ⟨rfl, hb⟩
      replace Q1 := Lib.hid (hop hb Q1.out)
      replace Q2 := Lib.hid (hop hb Q2.out)
      replace BC := Lib.hid (Buf.then_ BC.out hb)
      clear hb k0 k1
      obtain ⟨k0, k1⟩ := cells2 (hop BC.out PX6.out)
      go_wp2_with fail
      with_reducible refine (MB.out _).mono ?_
      rintro e w21 ⟨rfl, hb⟩
      replace Q1 := Lib.hid (hop hb Q1.out)
      replace Q2 := Lib.hid (hop hb Q2.out)
      replace BC := Lib.hid (Buf.then_ BC.out hb)
      clear hb k0 k1
      obtain ⟨k0, k1⟩ := cells2 (hop BC.out PX6.out)
      go_wp2_with fail
      with_reducible refine (XA.out _).mono ?_
      rintro e w22 ⟨rfl, hb⟩
      replace Q1 := Lib.hid (hop hb Q1.out)
      replace Q2 := Lib.hid (hop hb Q2.out)
      replace BC := Lib.hid (Buf.then_ BC.out hb)
      clear hb k0 k1
      obtain ⟨k0, k1⟩ := cells2 (hop BC.out PX6.out)
      go_wp2_with fail
      with_reducible refine (XB.out _).mono ?_
      rintro e w23 ⟨rfl, hb⟩
      replace Q1 := Lib.hid (hop hb Q1.out)
      replace Q2 := Lib.hid (hop hb Q2.out)
      replace BC := Lib.hid (Buf.then_ BC.out hb)
      clear hb k0 k1
      obtain ⟨k0, k1⟩ := cells2 (hop BC.out PX6.out)
      obtain ⟨k2, k3⟩ := cells2 Q1.out
      obtain ⟨k4, k5⟩ := cells2 Q2.out
      go_wp2_with fail
      go_roundw
      case rel => exact ⟨ji + 1, by omega, by go_num, BC⟩
      case measure => simp [intOf]; omega
    · obtain rfl : ji = 2 := by omega
      replace O6 := Lib.hid (O6.out.below BC.out)
      clear PX6 PH BC hj5 hji
      go_wp2_with fail
      go_roundw
      case rel => exact ⟨jo + 1, by omega, by go_num, O6⟩
      case measure => simp [intOf]; omega
set_option maxHeartbeats 16000000 in
set_option maxRecDepth 100000 in
theorem ck_rz1 : ck_ra1.2.1 := by
  intro a0 len0 cap0 z0 rn rd st kx xx fx w w0 SN wb
    b7 B0 ra1i0 hs wd g wc n d ra1i1 ra1i2 ra1i3 wA b14
    σ wx bP yn yd NP wE ra1i6 D1 PE wr u12 u16 u18
    u20 u21 u22 u23 u24 u26 u27 u28 u29 u30 u31 u32 u33 u34
    u35 u36 u37 u38 u39 u40 u41 u42 u43 u44 u46 u47 u48 u49
    u50 u51 u52 u53 u54 u55 u56 u57 u58 u83 u84 u85 u86 u87
    u88 u89 u90 u91 u92 u93 u94 u95 u96 u97 u98 u99 u100 u101
    u102 u103 u104 u105 u106 u107 u108 u109 u110 u111 u112 u113 u114 u115
    u116 u117 u118 u119 u120 u121 u122 u123 u124 u125 u126 u127 u128 u129
    u130 u131 u132 u133 u134 u135 u136 u137 u138 u139 u140 u141 u142 u143
    u144 u145 u146 u147 u148 u149 u150 u151 u152 u153 u154 u155 u156 u157
    u158 u159 u160 u161 u162 u163 u164 u165 u166 u167 u168 u169 u170 u171
    u172 u173 u174 u175 u176 u177 u178 u179 u180 u181 u182 u183 u184 u185
    u186 u187 u188 u189 u190 u191 u192 u193 u194 u195 u196 u197 u198 u199
    u200 u201 u202 u203 u204 u205 u206 u207 u208 u209 u210 u211 u212 u213
    u214 u215 u216 u217 u218 u219 u220 u221 u222 u223 u224 u225 u226 u227
    u228 u229 u230 u231 u232 u233 u234 u235 u236 u237 u238 u239 u240 u241
    u242 u243 u244 u245 u246 u247 u248 u249 u250 u251 u252 u253 u254 u255
    u256 u257 u258 u259 u260 u261 u262 u263 u264 u265 u266 u267 u268 u269
    u270 u271 u272 u273 u274 u275 u276 u277 u278 u279 u280 u281 u282 u283
    u284 u285 u286 u287 u288 u289 u290 u291 u292 u293 u294 u295 u296 u297
    u298 u299 u300 u301 u302 u303 u304 u305 u306 u307 u308 u309 u310 u311
    u312 u313 u314 u315 u316 u317 u318 u319 u320 u321 u322 u323 u324 O
    hjo hj3
  obtain ⟨u1, u2, u3, NA, NB⟩ := new_same kx xx
  replace NA := Lib.hid NA
  replace NB := Lib.hid NB
  have Du1 : (u1 != u1) = false := by simp
  have Du2 : (u2 != u2) = false := by simp
  have Du3 : (u3 != u3) = false := by simp
  have E1 : (u1 == u1) = true := by simp
  have E2 : (u2 == u2) = true := by simp
  have E3 : (u3 == u3) = true := by simp
  have BZ := Lib.hid (Buf.then_ B0.out O.out.di.bel)
  clear O PE NP D1
  go_wp2_with fail
  with_reducible refine (NA.out _).mono ?_
  rintro e w10 ⟨rfl, hb⟩
  replace BZ := Lib.hid (Buf.then_ BZ.out hb)
  clear hb
  go_upto_region 50 with fail
  obtain ⟨v1, hv1⟩ : ∃ wz, wz = w10.alloc (.cells #[.int .i64 u1, .int .i64 u2] 24) := ⟨_, rfl⟩
  obtain ⟨s1, hs1⟩ : ∃ bz, bz = w10.heap.size := ⟨_, rfl⟩
  have hb : Below w10.heap.size w10 v1 := by rw [hv1]; exact new_block _
  have Q1 := Lib.hid (show v1.heap[s1]? = some (.cells #[.int .i64 u1, .int .i64 u2] 24 (0, 0)) by rw [hv1, hs1]; exact heap_alloc_new w10 _)
  replace BZ := Lib.hid (Buf.then_ BZ.out hb)
  rw [← hv1, ← hs1]
  clear hv1 hs1 hb
  go_wp2_with fail
  with_reducible refine (NB.out _).mono ?_
  rintro e w11 ⟨rfl, hb⟩
  replace Q1 := Lib.hid (hop hb Q1.out)
  replace BZ := Lib.hid (Buf.then_ BZ.out hb)
  clear hb
  go_upto_region 51 with fail
  obtain ⟨v2, hv2⟩ : ∃ wz, wz = w11.alloc (.cells #[.int .i64 u1, .int .i64 u2] 24) := ⟨_, rfl⟩
  obtain ⟨s2_, hs2_⟩ : ∃ bz, bz = w11.heap.size := ⟨_, rfl⟩
  have hb : Below w11.heap.size w11 v2 := by rw [hv2]; exact new_block _
  have Q2 := Lib.hid (show v2.heap[s2_]? = some (.cells #[.int .i64 u1, .int .i64 u2] 24 (0, 0)) by rw [hv2, hs2_]; exact heap_alloc_new w11 _)
  replace Q1 := Lib.hid (hop hb Q1.out)
  replace BZ := Lib.hid (Buf.then_ BZ.out hb)
  rw [← hv2, ← hs2_]
  clear hv2 hs2_ hb
  obtain ⟨k2, k3⟩ := cells2 Q1.out
  obtain ⟨k4, k5⟩ := cells2 Q2.out
  go_wp2_with (go_at_call 7; with_reducible refine (SN.out _).mono ?_; rintro e w12 ⟨rfl, hb⟩)
  go_ret
  exact ⟨rfl, Buf.then_ BZ.out hb⟩
theorem rateExact_walk (a0 : Option Addr) (len0 cap0 : Nat) (z0 : List Int) (rn rd st kx xx fx : Int) (w : World) (w0 : Buf.IsRow .i64 w a0 len0 cap0 z0) (p1 : (Lit.int .i64 rn).wf = true) (q1 : (Lit.int .i64 rd).wf = true) (w2 : (Lit.int .i64 st).wf = true) (w3 : (Lit.int .i64 kx).wf = true) (w4 : (Lit.int .i64 xx).wf = true) (w5 : (Lit.int .i64 fx).wf = true) :
    Calls Try.prog 3 #[.slice a0 len0 cap0, .agg #[.int .i64 rn, .int .i64 rd], .int .i64 st, .int .i64 kx, .int .i64 xx, .int .i64 fx] w fun e w' => e = .returned (.bool true) ∧ Below w.heap.size w w' :=
  (ck_root.2 ⟨(ck_ra1.2.2 ⟨(ck_rb1.2.2 ⟨ck_rc1⟩ ⟨ck_re1⟩)⟩ ⟨ck_rz1⟩)⟩) a0 len0 cap0 z0 rn rd st kx xx fx w w0 p1 q1 w2 w3 w4 w5
end Laws
end Go.Proofs.Ytgckppkfpccanaa
