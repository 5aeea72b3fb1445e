/- The walk of DetectorPrefix. -/
import Derived.Test.YtldaocfkmahedaaDoorDetG
import Derived.Test.YtldaocfkmahedaaDoorDetF
import Derived.Test.YtldaocfkmahedaaDoorDetW
import Derived.Test.YtldaocfkmahedaaDoorDetQ
import Derived.Lib.MinMax
import Derived.Laws.StructEq
import Derived.Deep.DeepCutAuto
set_option linter.unusedVariables false
set_option linter.unusedSimpArgs false
namespace Go.Proofs.YtldaocfkmahedaaDoor
open Go.RowKit Wi Dice
namespace Laws
open Det
set_option maxHeartbeats 8000000 in
set_option maxRecDepth 100000 in
theorem detectorPrefix_walk (a0 : Option Addr) (len0 cap0 : Nat) (z0 : List Int) (a1 : Int) (w : World) (hcl : Cl w) (w0 : Buf.IsRow .i64 w a0 len0 cap0 z0) (w1 : (Lit.int .u8 a1).wf = true) :
    Calls Tryd.prog 4 #[.slice a0 len0 cap0, .int .u8 a1] w fun e w' => e = .returned (.bool true) ∧ Below w.heap.size w w' := by
  obtain ⟨c0, c1⟩ := Ma.wf_u8 w1
  clear w1
  have HC := Lib.hid hcl
  by_cases hs : len0 ≤ 500
  · have hd : decide ((len0 : Int) ≤ 500) = true := by simp; omega
    go_enter Tryd.func4, Tryd.ntmps4
    go_upto_region 4 with (first | (go_at_call 6; refine (light_any _ _ _ _).mono ?_; rintro e w1 ⟨rfl, rfl⟩; rw [hd]) | (go_at_call 8; refine (roll_any a0 len0 cap0 z0 _ w0 hs).mono ?_; rintro e w2 ⟨rfl, hdi⟩))
    have hdl := hdi.lt
    go_wp2_with fail
    refine (detector_any hdi).mono ?_
    rintro e w3 ⟨⟨S, L, ON, OFF, rfl, dg, hL⟩, hl⟩
    replace dg := Lib.hid dg
    have D3 := Lib.hid hl
    clear hl
    go_wp2_with fail
    refine (wave_small 60 (by decide) (by decide) D3.out.di).mono ?_
    rintro e w4 ⟨⟨xv, x, rfl, hox, hin, hx1, hx60⟩, hl⟩
    have WW := Lib.hid hl.di.bel
    have h3 := D3.out.far.size
    obtain ⟨xa, c, rfl, hc, c9, h0⟩ := sv_own hox
    obtain ⟨b, off, rfl, hlt, hcell⟩ := h0 (by omega)
    go_upto_region 5 with fail
    obtain ⟨w5, hw5⟩ : ∃ w5, w5 = w4.alloc (.cells #[.int .i64 S, .int .i64 L, .int .i64 ON, .int .i64 OFF] 29) := ⟨_, rfl⟩
    have hb5 : Below w4.heap.size w4 w5 := by rw [hw5]; exact new_block _
    obtain ⟨p8, hp8⟩ : ∃ p, p = w4.heap.size := ⟨_, rfl⟩
    have KA := Lib.hid (show w5.heap[p8]? = some (.cells #[.int .i64 S, .int .i64 L, .int .i64 ON, .int .i64 OFF] 29 (0, 0)) by rw [hw5, hp8]; exact heap_alloc_new w4 _)
    have SX := Lib.hid ((sv_own hox).below hb5)
    replace WW := Lib.hid (WW.out.trans (hb5.mono (by have := WW.out.size; omega)))
    rw [← hw5, ← hp8]
    have hb' : b < p8 := by rw [hp8]; exact hlt
    clear hw5 hb5 hp8 hl hox h0 hcell hlt D3 hdi h3
    generalize hxl : x.length = N at *
    replace hxl := Lib.hid hxl
    replace hin := Lib.hid hin
    have CL5 := Lib.hid (hbk WW.out HC.out)
    have X0 : Hid (∀ j, j < N → -1073741823 ≤ fn x j ∧ fn x j ≤ 1073741823) := Lib.hid fun j hj => by have := hin.out j (by rw [hxl.out]; exact hj); omega
    have V0 : Hid (∀ j, 0 ≤ ab (fn x) j) := Lib.hid fun j => by show 0 ≤ max (fn x j) (-fn x j); omega
    obtain ⟨q0, q1, q2, q3⟩ := c4 KA.out
    have s1 := dg.out.s1
    have sl := dg.out.sl
    have fo := dg.out.fo
    simp only at s1 sl fo
    obtain ⟨kk, hk, hkN⟩ : ∃ kk : Nat, (kk : Int) = a1 % ((N : Int) + 1) ∧ kk ≤ N := by
      refine ⟨(a1 % ((N : Int) + 1)).toNat, ?_, ?_⟩
      · have := Int.emod_nonneg a1 (show (N : Int) + 1 ≠ 0 by omega); omega
      · have := Int.emod_nonneg a1 (show (N : Int) + 1 ≠ 0 by omega); have := Int.emod_lt_of_pos a1 (show 0 < (N : Int) + 1 by omega); omega
    replace hk := Lib.hid hk
    obtain ⟨i0, hi, hz0, hz1, hz2⟩ := info_parts infoI
    go_upto_region 6 with fail
    rw [← hk.out]
    have SK : SV w5 (.slice (some ⟨b, off, none⟩) kk c) kk (fn x) := by
      obtain ⟨_, _, xe, _, _, hx3⟩ := SX.out
      cases xe
      exact ⟨_, _, rfl, by omega, c9, fun h0 => by
        obtain ⟨_, _, xe2, hbx, hxc⟩ := hx3 (by omega)
        cases xe2
        exact ⟨b, off, rfl, hbx, fun j hj => hxc j (by omega)⟩⟩
    have RK := Lib.hid fun w' (h : Below w5.heap.size w5 w') => run_any dg.out (SK.below h) (by omega) (fun j hj => X0.out j (by omega)) (hbk h CL5.out)
    have kN : (kk : Int) ≤ (N : Int) := by omega
    have k00 : (0 : Int) ≤ (kk : Int) := by omega
    have kc : (kk : Int) ≤ (c : Int) := by omega
    have hp8 : p8 < w5.heap.size := (Array.getElem?_eq_some_iff.1 KA.out).1
    go_region_held3 (fun w' => w'.cell? ⟨p8, 0, none⟩ = some (.int .i64 S) ∧ w'.cell? ⟨p8, 1, none⟩ = some (.int .i64 L) ∧ w'.cell? ⟨p8, 2, none⟩ = some (.int .i64 ON) ∧ w'.cell? ⟨p8, 3, none⟩ = some (.int .i64 OFF))
      (first
        | (go_split_ands; ((with_reducible refine ⟨cell_below B6 ?_ ?_, cell_below B6 ?_ ?_, cell_below B6 ?_ ?_, cell_below B6 ?_ ?_⟩) <;> (with_reducible assumption)))
        | go_keep)
      ((first
        | (go_at_call 11; (with_reducible refine (RK.out _ (Below.refl _ _)).mono ?_); rintro e w6 ⟨⟨lv, rfl, ho⟩, hb⟩; have B6 := Lib.hid hb; have T6 := Lib.hid ho)
        | (go_at_call 11; (with_reducible refine (RK.out _ (Below.refl _ _).drew).mono ?_); rintro e w6 ⟨⟨lv, rfl, ho⟩, hb⟩; have B6 := Lib.hid (Buf.then_ (Below.refl _ _).drew hb); have T6 := Lib.hid ho)))
    have hT1 := ts_of T6.out
    obtain ⟨l1, hl1⟩ : ∃ l1, l1 = runL ⟨S, L, ON, OFF⟩ (ab (fn x)) kk := ⟨_, rfl⟩
    obtain ⟨l2, hl2⟩ : ∃ l2, l2 = runL ⟨S, L, ON, OFF⟩ (ab (fn x)) N := ⟨_, rfl⟩
    have n1b := runL_len ⟨S, L, ON, OFF⟩ (ab (fn x)) kk
    have n2b := runL_len ⟨S, L, ON, OFF⟩ (ab (fn x)) N
    have PR := pre_rel ⟨S, L, ON, OFF⟩ (ab (fn x)) (by show 1 ≤ L; omega) V0.out N kk hkN
    rw [← hl1] at hT1 PR n1b
    rw [← hl2] at PR n2b
    have KA6 := Lib.hid (hbk B6.out KA.out)
    have CL6 := Lib.hid (hbk B6.out CL5.out)
    have SX6 := Lib.hid (SX.out.below B6.out)
    replace WW := Lib.hid (Buf.then_ WW.out B6.out)
    replace hT1 := Lib.hid hT1
    clear T6 RK SK KA CL5 SX B6 q0 q1 q2 q3 hp8 hl1
    obtain ⟨q0, q1, q2, q3⟩ := c4 KA6.out
    go_wp2_with fail
    refine (run_any dg.out SX6.out (by omega) X0.out CL6.out).mono ?_
    rintro e w7 ⟨⟨mv, rfl, ho⟩, hb⟩
    rw [← hl2] at ho
    replace hl2 := Lib.hid hl2
    have hT2 := Lib.hid (ts_of ho)
    replace hT1 := Lib.hid (hT1.out.below hb)
    have KA := Lib.hid (hbk hb KA6.out)
    have CL7 := Lib.hid (hbk hb CL6.out)
    have SX := Lib.hid (SX6.out.below hb)
    replace WW := Lib.hid (Buf.then_ WW.out hb)
    clear ho hb q0 q1 q2 q3 KA6 CL6 SX6
    obtain ⟨q0, q1, q2, q3⟩ := c4 KA.out
    obtain ⟨la, lc, rfl, _⟩ := hT1.out.form
    obtain ⟨ma, mc, rfl, _⟩ := hT2.out.form
    generalize hn1 : l1.length = n1 at *
    generalize hn2 : l2.length = n2 at *
    replace hn1 := Lib.hid hn1
    replace hn2 := Lib.hid hn2
    have PR2 := Lib.hid PR.2
    have n12 : (n1 : Int) ≤ (n2 : Int) := by have := PR.1; omega
    clear PR
    have d12 : decide (n2 < n1) = false := decide_eq_false (by omega)
    go_wp2_with fail
    try rw [d12]
    go_loopw [70] (fun v wr => ∃ j : Nat, j ≤ n1 ∧ v = .int .i64 j ∧ Hid (Below w7.heap.size w7 wr)) (fun v _ => n1 - (intOf v).toNat)
    case atStart => exact ⟨0, by omega, rfl, Lib.hid (Below.refl _ _)⟩
    case round =>
      obtain ⟨j, hj, rfl, WB⟩ := hrel
      by_cases hlt : j < n1
      · obtain ⟨t, ht⟩ : ∃ t, l1[j]? = some t := ⟨l1[j]'(by rw [hn1.out]; exact hlt), by simp⟩
        obtain ⟨u, hu, r1, r2, r3⟩ := PR2.out j t ht
        obtain ⟨g, rfl, _, _, x0, x1, x2⟩ := (hT1.out.below WB.out).at ht
        obtain ⟨g', rfl, hjm, _, y0, y1, y2⟩ := (hT2.out.below WB.out).at hu
        obtain ⟨on, off', pk⟩ := t
        obtain ⟨on2, off2, pk2⟩ := u
        simp only at x0 x1 x2 y0 y1 y2 r1 r2 r3
        subst r1
        have jn : (j : Int) < (n1 : Int) := by omega
        have jm : (j : Int) < (n2 : Int) := by omega
        clear ht hu
        by_cases ho : 0 ≤ off'
        · have r2' := r2 ho
          simp only [Tr.mk.injEq, true_and] at r2'
          obtain ⟨e1, e2⟩ := r2'
          subst e1 e2
          have d1 : decide (0 ≤ off') = true := decide_eq_true ho
          have d2 : decide (off' < 0) = false := decide_eq_false (by omega)
          clear r2 r3
          go_wp2_with fail
          go_quiet (fail)
          go_wp2_with fail
          go_roundw
          case rel => exact ⟨j + 1, by omega, by go_num, Lib.hid (Buf.below_drewN WB.out _)⟩
          case measure => simp [intOf]; omega
        · have d1 : decide (0 ≤ off') = false := decide_eq_false ho
          have d2 : decide (off' < 0) = true := decide_eq_true (by omega)
          obtain ⟨f1, f2⟩ := r3 (by omega)
          have d3 : decide (pk2 < pk) = false := decide_eq_false (by omega)
          have d5 : (n1 : Int) - 1 = (j : Int) := by omega
          clear f1
          clear r2 r3
          go_wp2_with fail
          go_quiet (fail)
          go_wp2_with fail
          clear d5 d3
          go_roundw
          case rel => exact ⟨j + 1, by omega, by go_num, Lib.hid (Buf.below_drewN WB.out _)⟩
          case measure => simp [intOf]; omega
      · replace hT1 := Lib.hid (hT1.out.below WB.out)
        replace hT2 := Lib.hid (hT2.out.below WB.out)
        replace KA := Lib.hid (hbk WB.out KA.out)
        replace CL7 := Lib.hid (hbk WB.out CL7.out)
        replace SX := Lib.hid (SX.out.below WB.out)
        replace WW := Lib.hid (Buf.then_ WW.out WB.out)
        clear WB PR2 q0 q1 q2 q3
        obtain ⟨q0, q1, q2, q3⟩ := c4 KA.out
        have hpl := Lib.hid (Array.getElem?_eq_some_iff.1 KA.out).1
        have hgl := Lib.hid (Array.getElem?_eq_some_iff.1 CL7.out).1
        have DK := Lib.hid (show ((L + kk : Nat) : Int) = (L : Int) + (kk : Int) by omega)
        go_upto_region 16 with fail
        go_wp2_with (refine wpList_make_ints _ rfl _ _ 22 rfl 3 i0 Tryd.underlying22 hi hz0 hz1 hz2 _ _ (L + kk) rfl rfl DK.out.symm DK.out.symm (by omega) ?_; intro w8 hown hb)
        obtain ⟨p14, hp14⟩ : ∃ p, p = wr.heap.size := ⟨_, rfl⟩
        rw [← hp14] at hown ⊢
        clear hp14
        have B8 := Lib.hid hb
        replace KA := Lib.hid (hbk hb KA.out)
        replace CL7 := Lib.hid (hbk hb CL7.out)
        replace SX := Lib.hid (SX.out.below hb)
        replace hT1 := Lib.hid (hT1.out.below hb)
        replace hT2 := Lib.hid (hT2.out.below hb)
        have m1 : Hid (L + kk + N ≤ maxLen) := Lib.hid (by unfold maxLen; omega)
        have m2 : Hid ((L + kk + N) * 8 ≤ 140737488355328) := Lib.hid (by omega)
        have OLC := Lib.hid fun (w' : World) (h : Below w8.heap.size w8 w') => ints_read (w := w') (g := p14) (o := 0) (x := List.replicate (L + kk) 0) (sv_cells (c := L + kk) (n := L + kk) (by have := (sv_own hown).below h; rwa [List.length_replicate] at this) (by simp))
        have SRW := Lib.hid fun (w' : World) (h : Below w8.heap.size w8 w') => ints_read (w := w') (g := b) (o := off) (x := x) (sv_cells (SX.out.below h) hxl.out)
        have LX : Hid ((List.replicate (L + kk) 0 ++ x).length = L + kk + N) := Lib.hid (by rw [List.length_append, List.length_replicate, hxl.out])
        have LB : Hid (∀ j, j < L + kk + N → -1073741823 ≤ fn (List.replicate (L + kk) 0 ++ x) j ∧ fn (List.replicate (L + kk) 0 ++ x) j ≤ 1073741823) := Lib.hid fun j hj => by
          by_cases h : j < L + kk
          · have : fn (List.replicate (L + kk) 0 ++ x) j = 0 := by
              unfold fn
              simp only [List.getD_eq_getElem?_getD]
              rw [List.getElem?_append_left (by simpa using h), List.getElem?_replicate]
              split <;> rfl
            rw [this]; omega
          · have := fn_lead (L + kk) x (j - (L + kk))
            rw [show L + kk + (j - (L + kk)) = j by omega] at this
            rw [this]
            exact X0.out _ (by omega)
        obtain ⟨l3, hl3⟩ : ∃ l3, l3 = runL ⟨S, L, ON, OFF⟩ (ab (fn (List.replicate (L + kk) 0 ++ x))) (L + kk + N) := ⟨_, rfl⟩
        have RK := Lib.hid fun (w' : World) (v' : Value) (h : Below w8.heap.size w8 w') (ho : w'.ownsRow w8.heap.size 3 1 v' (L + kk + N) (ints (List.replicate (L + kk) 0 ++ x))) => (by
          have hs := (sv_row ho).2
          have r := run_any dg.out hs (by omega) LB.out (hbk h CL7.out)
          rw [← hl3] at r
          exact r : Calls Tryd.prog 11 #[.agg #[.int .i64 S, .int .i64 L, .int .i64 ON, .int .i64 OFF], v'] w' fun e w'' => Ran w'.heap.size l3 e w'' ∧ Below w'.heap.size w' w'')
        have n3b : l3.length ≤ L + kk + N + 1 := by rw [hl3]; exact runL_len _ _ _
        replace hl3 := Lib.hid hl3
        clear hown hb q0 q1 q2 q3
        obtain ⟨q0, q1, q2, q3⟩ := c4 KA.out
        go_upto_region 17 with fail
        go_cut [15, 16] (fun v e wx => e = .int .i64 0 ∧ Hid (wx.ownsRow w8.heap.size 37 3 v l3.length (row l3)) ∧ Hid (Below w8.heap.size w8 wx))
        case first =>
          refine wp_region_noPanic ?_
          refine wp_region_any (by kernel_rfl) ?_
          refine Inv.wpAny_inv (fun k => false) [138, 139, 140, 141, 142, 137, 143, 144, 15, 16] (fun w_ => Below w8.heap.size w8 w_) (fun _ w_ w2_ => Below w_.heap.size w_ w2_) (fun k => ([fun v_ w_ => v_ = .agg #[.int .i64 S, .int .i64 L, .int .i64 ON, .int .i64 OFF], fun v_ w_ => v_ = .slice (some ⟨p14, 0, none⟩) (L + kk) (L + kk), fun v_ w_ => v_ = .slice (some ⟨b, off, none⟩) N c, fun v_ w_ => w_.ownsRow w8.heap.size 3 1 v_ (L + kk + N) (ints (List.replicate (L + kk) 0 ++ x)), fun v_ w_ => ∃ q_, v_ = .tuple #[q_, .int .i64 0] ∧ w_.ownsRow w8.heap.size 37 3 q_ l3.length (row l3), fun v_ w_ => ∃ q_, v_ = .tuple #[q_, .int .i64 0] ∧ w_.ownsRow w8.heap.size 37 3 q_ l3.length (row l3), fun v_ w_ => w_.ownsRow w8.heap.size 37 3 v_ l3.length (row l3), fun v_ w_ => v_ = .int .i64 0, fun v_ w_ => w_.ownsRow w8.heap.size 37 3 v_ l3.length (row l3), fun v_ w_ => v_ = .int .i64 0] : List (Value → World → Prop)).getD k (fun _ _ => True)) _ (fun σ => by simp only [Inv.putAll, List.foldl_cons, List.foldl_nil, Act.put, List.setIfInBounds_toArray, List.set_cons_zero, List.set_cons_succ]; rfl) (by kernel_rfl) (by kernel_rfl) ?_ (Below.refl _ _).drew ?_ ?_ 0 #[true, true, true, true, true, true, true, true, true, true] (by kernel_rfl) (by kernel_rfl) ?_
          · intro j k v w1 w2 hjk hv hr
            rcases k with _ | k
            · exact hv
            rcases k with _ | k
            · exact hv
            rcases k with _ | k
            · exact hv
            rcases k with _ | k
            · exact (row_below hv hr)
            rcases k with _ | k
            · exact (by obtain ⟨v_, h1, h2⟩ := hv; exact ⟨v_, h1, row_below h2 hr⟩)
            rcases k with _ | k
            · exact (by obtain ⟨v_, h1, h2⟩ := hv; exact ⟨v_, h1, row_below h2 hr⟩)
            rcases k with _ | k
            · exact (row_below hv hr)
            rcases k with _ | k
            · exact hv
            rcases k with _ | k
            · exact (row_below hv hr)
            rcases k with _ | k
            · exact hv
            · exact hv
          · intro k t hl hd
            rcases k with _ | k
            · exact absurd hl (by decide +kernel)
            rcases k with _ | k
            · exact absurd hl (by decide +kernel)
            rcases k with _ | k
            · exact absurd hl (by decide +kernel)
            rcases k with _ | k
            · exact absurd hl (by decide +kernel)
            rcases k with _ | k
            · exact absurd hl (by decide +kernel)
            rcases k with _ | k
            · exact absurd hl (by decide +kernel)
            rcases k with _ | k
            · exact absurd hl (by decide +kernel)
            rcases k with _ | k
            · exact absurd hl (by decide +kernel)
            rcases k with _ | k
            · exact absurd hl (by decide +kernel)
            rcases k with _ | k
            · exact absurd hl (by decide +kernel)
            · simp at hd
          · show Inv.Steps _ _ _ _ _ _ _ _ [0, 1, 2, 3, 4, 5, 6, 7, 8, 9]
            refine Inv.Steps.go (by decide) (by rfl) (fun σ wx hw hd K hK => ?_) ?_
            · simp only [List.getElem_toArray, List.getElem_cons_zero, List.getElem_cons_succ, Act.put, List.setIfInBounds_toArray, List.set_cons_zero, List.set_cons_succ] at hK ⊢
              refine wp_load_row 29 (.tmp 6) rfl p8 rfl 29 #[.int .i64 S, .int .i64 L, .int .i64 ON, .int .i64 OFF] (0, 0) _ (hbk hw KA.out) rfl rfl rfl ?_
              simp only [Act.put, List.setIfInBounds_toArray, List.set_cons_zero, List.set_cons_succ]
              exact hK.out _ _ hw (Below.refl _ _) (rfl)
            refine Inv.Steps.go (by decide) (by rfl) (fun σ wx hw hd K hK => ?_) ?_
            · simp only [List.getElem_toArray, List.getElem_cons_zero, List.getElem_cons_succ, Act.put, List.setIfInBounds_toArray, List.set_cons_zero, List.set_cons_succ] at hK ⊢
              go_simp
              exact hK.out _ _ hw (Below.refl _ _) (rfl)
            refine Inv.Steps.go (by decide) (by rfl) (fun σ wx hw hd K hK => ?_) ?_
            · simp only [List.getElem_toArray, List.getElem_cons_zero, List.getElem_cons_succ, Act.put, List.setIfInBounds_toArray, List.set_cons_zero, List.set_cons_succ] at hK ⊢
              go_simp
              exact hK.out _ _ hw (Below.refl _ _) (rfl)
            refine Inv.Steps.go (by decide) (by rfl) (fun σ wx hw hd K hK => ?_) ?_
            · obtain e139 : (σ 139) = .slice (some ⟨p14, 0, none⟩) (L + kk) (L + kk) := hd 1 (some 139) (by kernel_rfl) (by rfl)
              obtain e140 : (σ 140) = .slice (some ⟨b, off, none⟩) N c := hd 2 (some 140) (by kernel_rfl) (by rfl)
              simp only [List.getElem_toArray, List.getElem_cons_zero, List.getElem_cons_succ, Act.put, List.setIfInBounds_toArray, List.set_cons_zero, List.set_cons_succ, e139, e140] at hK ⊢
              refine wp_grows _ _ 22 rfl 3 i0 (.int .i64 0) 1 8 Tryd.underlying22 hi hz0 hz1 hz2 rfl (by decide) ⟨p14, 0, none⟩ (L + kk) (L + kk) (ints (List.replicate (L + kk) 0)) (by simp [Act.eval]) (by simp [ints_len]) (OLC.out _ hw) ⟨b, off, none⟩ N c (ints x) (by simp [Act.eval]) (by rw [ints_len, hxl.out, Nat.mul_one]) (SRW.out _ hw) (by omega) m1.out m2.out ?_
              intro v9 w1 hown9 hg9
              dsimp only
              have hc : Below wx.heap.size wx w1 := (Below.refl _ _).grown hg9 (Nat.le_refl _) (fun q hq => by cases hq)
              rw [← ints_append] at hown9
              replace hown9 := own_mono hown9 hw.size
              exact hK.out _ _ (Buf.then_ hw hc) hc (hown9)
            refine Inv.Steps.go (by decide) (by rfl) (fun σ wx hw hd K hK => ?_) ?_
            · obtain e138 : (σ 138) = .agg #[.int .i64 S, .int .i64 L, .int .i64 ON, .int .i64 OFF] := hd 0 (some 138) (by kernel_rfl) (by rfl)
              obtain o141 : wx.ownsRow w8.heap.size 3 1 (σ 141) (L + kk + N) (ints (List.replicate (L + kk) 0 ++ x)) := hd 3 (some 141) (by kernel_rfl) (by rfl)
              simp only [List.getElem_toArray, List.getElem_cons_zero, List.getElem_cons_succ, Act.put, List.setIfInBounds_toArray, List.set_cons_zero, List.set_cons_succ, e138] at hK ⊢
              go_simp
              go_at_call 11
              refine (RK.out wx _ hw o141).mono ?_
              rintro e w1 ⟨⟨v, rfl, ho⟩, hc⟩
              dsimp only
              replace ho := own_mono ho hw.size
              exact hK.out _ _ (Buf.then_ hw hc) hc (⟨v, rfl, ho⟩)
            refine Inv.Steps.go (by decide) (by rfl) (fun σ wx hw hd K hK => ?_) ?_
            · obtain ⟨v142, e142, o142⟩ : ∃ q_, (σ 142) = .tuple #[q_, .int .i64 0] ∧ wx.ownsRow w8.heap.size 37 3 q_ l3.length (row l3) := hd 4 (some 142) (by kernel_rfl) (by rfl)
              simp only [List.getElem_toArray, List.getElem_cons_zero, List.getElem_cons_succ, Act.put, List.setIfInBounds_toArray, List.set_cons_zero, List.set_cons_succ, e142] at hK ⊢
              go_simp
              exact hK.out _ _ hw (Below.refl _ _) (⟨v142, rfl, o142⟩)
            refine Inv.Steps.go (by decide) (by rfl) (fun σ wx hw hd K hK => ?_) ?_
            · obtain ⟨v137, e137, o137⟩ : ∃ q_, (σ 137) = .tuple #[q_, .int .i64 0] ∧ wx.ownsRow w8.heap.size 37 3 q_ l3.length (row l3) := hd 5 (some 137) (by kernel_rfl) (by rfl)
              simp only [List.getElem_toArray, List.getElem_cons_zero, List.getElem_cons_succ, Act.put, List.setIfInBounds_toArray, List.set_cons_zero, List.set_cons_succ, e137] at hK ⊢
              go_simp
              exact hK.out _ _ hw (Below.refl _ _) (o137)
            refine Inv.Steps.go (by decide) (by rfl) (fun σ wx hw hd K hK => ?_) ?_
            · obtain ⟨v137, e137, o137⟩ : ∃ q_, (σ 137) = .tuple #[q_, .int .i64 0] ∧ wx.ownsRow w8.heap.size 37 3 q_ l3.length (row l3) := hd 5 (some 137) (by kernel_rfl) (by rfl)
              simp only [List.getElem_toArray, List.getElem_cons_zero, List.getElem_cons_succ, Act.put, List.setIfInBounds_toArray, List.set_cons_zero, List.set_cons_succ, e137] at hK ⊢
              go_simp
              exact hK.out _ _ hw (Below.refl _ _) (rfl)
            refine Inv.Steps.go (by decide) (by rfl) (fun σ wx hw hd K hK => ?_) ?_
            · obtain o143 : wx.ownsRow w8.heap.size 37 3 (σ 143) l3.length (row l3) := hd 6 (some 143) (by kernel_rfl) (by rfl)
              simp only [List.getElem_toArray, List.getElem_cons_zero, List.getElem_cons_succ, Act.put, List.setIfInBounds_toArray, List.set_cons_zero, List.set_cons_succ] at hK ⊢
              go_simp
              exact hK.out _ _ hw (Below.refl _ _) (o143)
            refine Inv.Steps.go (by decide) (by rfl) (fun σ wx hw hd K hK => ?_) ?_
            · obtain e144 : (σ 144) = .int .i64 0 := hd 7 (some 144) (by kernel_rfl) (by rfl)
              simp only [List.getElem_toArray, List.getElem_cons_zero, List.getElem_cons_succ, Act.put, List.setIfInBounds_toArray, List.set_cons_zero, List.set_cons_succ, e144] at hK ⊢
              go_simp
              exact hK.out _ _ hw (Below.refl _ _) (rfl)
            exact Inv.Steps.nil
          · intro σ wx hw hd
            obtain o15 : wx.ownsRow w8.heap.size 37 3 (σ 15) l3.length (row l3) := hd 8 (some 15) (by rfl) (by rfl)
            obtain e16 : (σ 16) = .int .i64 0 := hd 9 (some 16) (by rfl) (by rfl)
            refine Inv.done (by kernel_rfl) (NoPanic.normal ?_)
            have OH := Lib.hid o15
            have WH := Lib.hid hw
            have EH := Lib.hid e16
            clear hd
            go_wp2_with fail
            go_meet
            exact ⟨EH.out, OH, WH⟩
        case rest =>
          obtain ⟨rfl, O3, BC⟩ := hcut
          have T3 := Lib.hid (ts_of O3.out)
          replace KA := Lib.hid (hbk BC.out KA.out)
          replace CL7 := Lib.hid (hbk BC.out CL7.out)
          replace hT2 := Lib.hid (hT2.out.below BC.out)
          replace WW := Lib.hid (Buf.then_ WW.out (Buf.then_ B8.out BC.out))
          have VL : Hid (∀ j, ab (fn (List.replicate (L + kk) 0 ++ x)) (L + kk + j) = ab (fn x) j) := Lib.hid fun j => by
            show max (fn _ (L + kk + j)) (-fn _ (L + kk + j)) = max (fn x j) (-fn x j)
            rw [fn_lead]
          have V1 : Hid (∀ j, 0 ≤ ab (fn (List.replicate (L + kk) 0 ++ x)) j) := Lib.hid fun j => by show 0 ≤ max (fn _ j) (-fn _ j); omega
          have BD := Lib.hid (show ∀ t ∈ l3, 0 ≤ t.on ∧ t.on ≤ 1000000 ∧ -1 ≤ t.off ∧ t.off ≤ 1000000 by
            intro t ht
            have := runL_bd ⟨S, L, ON, OFF⟩ _ (by show 1 ≤ L; omega) V1.out (L + kk + N) t (by rw [← hl3.out]; exact ht)
            omega)
          obtain ⟨pa, pc, rfl, pnc⟩ := T3.out.form
          clear O3 BC RK OLC SRW SX hT1 B8 LB LX m1 m2 q0 q1 q2 q3
          obtain ⟨q0, q1, q2, q3⟩ := c4 KA.out
          generalize hn3 : l3.length = n3 at *
          replace hn3 := Lib.hid hn3
          go_wp2_with fail
          go_loopw [18, 149] (fun v18 v149 wr => ∃ (j : Nat) (op : Bool), j ≤ n3 ∧ v18 = .bool op ∧ v149 = .int .i64 j ∧ Hid (op = opn (((L + kk : Nat) : Int) + (L : Int) - 1) (l3.take j)) ∧ Hid (Below wc.heap.size wc wr)) (fun _ v _ => n3 - (intOf v).toNat)
          case atStart => exact ⟨0, false, by omega, rfl, rfl, Lib.hid rfl, Lib.hid (Below.refl _ _)⟩
          case round =>
            obtain ⟨j, op, hj, rfl, rfl, hop, BJ⟩ := hrel
            by_cases hlt : j < n3
            · obtain ⟨t, ht⟩ : ∃ t, l3[j]? = some t := ⟨l3[j]'(by rw [hn3.out]; exact hlt), by simp⟩
              obtain ⟨g, rfl, _, _, x0, x1, x2⟩ := (T3.out.below BJ.out).at ht
              have tb := BD.out t (List.mem_of_getElem? ht)
              obtain ⟨on, off', pk⟩ := t
              simp only at x0 x1 x2 tb
              obtain ⟨w2', hw2⟩ : ∃ w2', w2' = wr.alloc (.cells #[.int .i64 on, .int .i64 off', .int .i64 pk] 37) := ⟨_, rfl⟩
              obtain ⟨p20, hp20⟩ : ∃ p, p = wr.heap.size := ⟨_, rfl⟩
              have hb2 : Below wr.heap.size wr w2' := by rw [hw2]; exact new_block _
              have K2 := Lib.hid (show w2'.heap[p20]? = some (.cells #[.int .i64 on, .int .i64 off', .int .i64 pk] 37 (0, 0)) by rw [hw2, hp20]; exact heap_alloc_new wr _)
              replace BJ := Lib.hid (Buf.then_ BJ.out hb2)
              have KD := Lib.hid (hbk BJ.out KA.out)
              go_upto_region 25 with fail
              rw [← hw2, ← hp20]
              clear hw2 hp20 hb2 x0 x1 x2 q0 q1 q2 q3
              obtain ⟨q0, q1, q2, q3⟩ := c4 KD.out
              obtain ⟨y0, y1, y2⟩ := c3 K2.out
              have DKI : ((L + kk : Nat) : Int) = (L : Int) + (kk : Int) := by omega
              obtain ⟨thr, hthr⟩ : ∃ thr : Int, thr = ((L + kk : Nat) : Int) + (L : Int) - 1 := ⟨_, rfl⟩
              cases op with
              | true =>
                have HO : Hid (true = opn (((L + kk : Nat) : Int) + (L : Int) - 1) (l3.take (j + 1))) := Lib.hid (by rw [opn_snoc _ _ _ _ ht, ← hop.out]; simp)
                clear hop ht
                go_wp2_with fail
                go_roundw
                case rel => exact ⟨j + 1, true, by omega, rfl, by go_num, HO, BJ⟩
                case measure => simp [intOf]; omega
              | false =>
                by_cases h1 : on < (L : Int) + (kk : Int) + (L : Int) - 1
                · by_cases h2 : off' < 0
                  · have HO : Hid (true = opn (((L + kk : Nat) : Int) + (L : Int) - 1) (l3.take (j + 1))) := Lib.hid (by
                      rw [opn_snoc _ _ _ _ ht, ← hop.out]
                      simp only [Bool.false_or]
                      rw [decide_eq_true (show on < ((L + kk : Nat) : Int) + (L : Int) - 1 by omega)]
                      rw [decide_eq_true h2]
                      rfl)
                    clear hop ht hthr
                    go_wp2_with fail
                    go_roundw
                    case rel => exact ⟨j + 1, true, by omega, rfl, by go_num, HO, BJ⟩
                    case measure => simp [intOf]; omega
                  · by_cases h3 : (L : Int) + (kk : Int) + (L : Int) - 1 < off'
                    · have HO : Hid (true = opn (((L + kk : Nat) : Int) + (L : Int) - 1) (l3.take (j + 1))) := Lib.hid (by
                        rw [opn_snoc _ _ _ _ ht, ← hop.out]
                        simp only [Bool.false_or]
                        rw [decide_eq_true (show on < ((L + kk : Nat) : Int) + (L : Int) - 1 by omega)]
                        rw [decide_eq_false h2]
                        rw [decide_eq_true (show ((L + kk : Nat) : Int) + (L : Int) - 1 < off' by omega)]
                        rfl)
                      clear hop ht hthr
                      go_wp2_with fail
                      go_roundw
                      case rel => exact ⟨j + 1, true, by omega, rfl, by go_num, HO, BJ⟩
                      case measure => simp [intOf]; omega
                    · have HO : Hid (false = opn (((L + kk : Nat) : Int) + (L : Int) - 1) (l3.take (j + 1))) := Lib.hid (by
                        rw [opn_snoc _ _ _ _ ht, ← hop.out]
                        simp only [Bool.false_or]
                        rw [decide_eq_true (show on < ((L + kk : Nat) : Int) + (L : Int) - 1 by omega)]
                        rw [decide_eq_false h2]
                        rw [decide_eq_false (show ¬ ((L + kk : Nat) : Int) + (L : Int) - 1 < off' by omega)]
                        rfl)
                      clear hop ht hthr
                      go_wp2_with fail
                      go_roundw
                      case rel => exact ⟨j + 1, false, by omega, rfl, by go_num, HO, BJ⟩
                      case measure => simp [intOf]; omega
                · have HO : Hid (false = opn (((L + kk : Nat) : Int) + (L : Int) - 1) (l3.take (j + 1))) := Lib.hid (by
                    rw [opn_snoc _ _ _ _ ht, ← hop.out]
                    simp only [Bool.false_or]
                    rw [decide_eq_false (show ¬ on < ((L + kk : Nat) : Int) + (L : Int) - 1 by omega)]
                    rfl)
                  clear hop ht hthr
                  go_wp2_with fail
                  go_roundw
                  case rel => exact ⟨j + 1, false, by omega, rfl, by go_num, HO, BJ⟩
                  case measure => simp [intOf]; omega
            · have hjn : l3.take j = l3 := List.take_of_length_le (by rw [hn3.out]; omega)
              rw [hjn] at hop
              clear hjn
              replace T3 := Lib.hid (T3.out.below BJ.out)
              replace KA := Lib.hid (hbk BJ.out KA.out)
              replace CL7 := Lib.hid (hbk BJ.out CL7.out)
              replace hT2 := Lib.hid (hT2.out.below BJ.out)
              replace WW := Lib.hid (Buf.then_ WW.out BJ.out)
              clear q0 q1 q2 q3 BJ
              obtain ⟨q0, q1, q2, q3⟩ := c4 KA.out
              have SN := Lib.hid (sane_any CL7.out)
              by_cases hNL : L ≤ N
              · have hNL' : (L : Int) ≤ (N : Int) := by omega
                cases op with
                | true =>
                  go_wp2_with (go_at_call 7; with_reducible refine SN.out.mono ?_; rintro e w9 ⟨rfl, hb⟩)
                  go_ret
                  exact ⟨rfl, Buf.then_ WW.out hb⟩
                | false =>
                  obtain ⟨L1, hL1⟩ : ∃ L1, L = L1 + 1 := ⟨L - 1, by omega⟩
                  have SEL := Lib.hid (show selL (L1 : Int) (lateL ((L : Int) + (kk : Int)) l3) = l2 by
                    rw [show (L : Int) + (kk : Int) = ((L + kk : Nat) : Int) by omega]
                    rw [hl3.out, hl2.out]
                    refine lead_sel ⟨S, L, ON, OFF⟩ VL.out V1.out hL1 (show S ≤ L by omega) fo hNL ?_
                    rw [← hl3.out]
                    have := opn_no hop.out.symm
                    rw [show ((L + kk : Nat) : Int) + (L : Int) - 1 = ((L + kk + L1 : Nat) : Int) by omega] at this
                    exact this)
                  replace hL1 := Lib.hid hL1
                  go_wp2_with fail
                  refine (late_any T3.out (by omega) (by omega) BD.out).mono ?_
                  rintro e w9 ⟨⟨qv, rfl, ho⟩, hb⟩
                  have hq3 : (lateL ((L : Int) + (kk : Int)) l3).length ≤ n3 := by
                    unfold lateL
                    rw [List.length_map]
                    have := List.length_filter_le (fun y : Tr => decide ((L : Int) + (kk : Int) ≤ y.on)) l3
                    rw [hn3.out] at this
                    exact this
                  generalize lateL ((L : Int) + (kk : Int)) l3 = Q at *
                  have TQ := Lib.hid (ts_of ho)
                  generalize hnq : Q.length = nq at *
                  replace hnq := Lib.hid hnq
                  obtain ⟨qa, qc, rfl, qnc⟩ := TQ.out.form
                  replace KA := Lib.hid (hbk hb KA.out)
                  replace CL7 := Lib.hid (hbk hb CL7.out)
                  replace hT2 := Lib.hid (hT2.out.below hb)
                  replace WW := Lib.hid (Buf.then_ WW.out hb)
                  clear ho hb T3 SN BD q0 q1 q2 q3 hop VL V1
                  obtain ⟨j0, hj0, hz0', hz1', hz2'⟩ := info_parts infoT
                  obtain ⟨q0, q1, q2, q3⟩ := c4 KA.out
                  have O0 : Hid (w9.ownsRow w9.heap.size 37 3 (.slice none 0 0) (selL (L1 : Int) (Q.take 0)).length (row (selL (L1 : Int) (Q.take 0)))) := Lib.hid (World.ownsRow_nil _ _ _ _)
                  go_wp2_with fail
                  go_loopw [22, 198] (fun v22 v198 wr => ∃ j : Nat, j ≤ nq ∧ v198 = .int .i64 j ∧ Hid (wr.ownsRow w9.heap.size 37 3 v22 (selL (L1 : Int) (Q.take j)).length (row (selL (L1 : Int) (Q.take j)))) ∧ Hid (Below w9.heap.size w9 wr)) (fun _ v _ => nq - (intOf v).toNat)
                  case atStart => exact ⟨0, by omega, rfl, O0, Lib.hid (Below.refl _ _)⟩
                  case round =>
                    clear O0
                    obtain ⟨j, hj, rfl, O, BJ⟩ := hrel
                    by_cases hlt : j < nq
                    · obtain ⟨t, ht⟩ : ∃ t, Q[j]? = some t := ⟨Q[j]'(by rw [hnq.out]; exact hlt), by simp⟩
                      obtain ⟨g, rfl, _, _, x0, x1, x2⟩ := (TQ.out.below BJ.out).at ht
                      have SNN := sel_snoc (L1 : Int) Q j t ht
                      have hm : (selL (L1 : Int) (Q.take j)).length ≤ 10000 := by
                        unfold selL
                        have := List.length_filter_le (fun y : Tr => decide ((L1 : Int) ≤ y.on)) (Q.take j)
                        rw [List.length_take] at this
                        omega
                      generalize selL (L1 : Int) (Q.take j) = M at *
                      obtain ⟨on, off', pk⟩ := t
                      simp only at x0 x1 x2
                      obtain ⟨w2', hw2⟩ : ∃ w2', w2' = wr.alloc (.cells #[.int .i64 on, .int .i64 off', .int .i64 pk] 37) := ⟨_, rfl⟩
                      obtain ⟨p24, hp24⟩ : ∃ p, p = wr.heap.size := ⟨_, rfl⟩
                      have hb2 : Below wr.heap.size wr w2' := by rw [hw2]; exact new_block _
                      have K2 := Lib.hid (show w2'.heap[p24]? = some (.cells #[.int .i64 on, .int .i64 off', .int .i64 pk] 37 (0, 0)) by rw [hw2, hp24]; exact heap_alloc_new wr _)
                      have own := Lib.hid (row_below O.out hb2)
                      replace BJ := Lib.hid (Buf.then_ BJ.out hb2)
                      have KD := Lib.hid (hbk BJ.out KA.out)
                      go_upto_region 33 with fail
                      rw [← hw2, ← hp24]
                      clear hw2 hp24 hb2 x0 x1 x2 q0 q1 q2 q3 ht O
                      obtain ⟨q0, q1, q2, q3⟩ := c4 KD.out
                      obtain ⟨y0, y1, y2⟩ := c3 K2.out
                      have hLI : (L : Int) - 1 = (L1 : Int) := by have := hL1.out; omega
                      by_cases hon : (L1 : Int) ≤ on
                      · have hsz : w9.heap.size ≤ w2'.heap.size := BJ.out.size
                        have m1 : Hid (M.length + 1 ≤ maxLen) := Lib.hid (by unfold maxLen; omega)
                        have m2 : Hid ((M.length + 1) * 24 ≤ 140737488355328) := Lib.hid (by omega)
                        rw [if_pos hon] at SNN
                        go_upto_region 35 with (at_builtin; refine Tri.append3 rfl _ _ 32 rfl w9.heap.size 37 _ j0 _ 24 Tryd.underlying32 hj0 hz0' hz1' hz2' rfl rfl own.out hsz _ _ _ rfl rfl rfl rfl m1.out m2.out ?_; intro v' w7' hown' hg)
                        have OE := Lib.hid (show w7'.ownsRow w9.heap.size 37 3 v' (selL (L1 : Int) (Q.take (j + 1))).length (row (selL (L1 : Int) (Q.take (j + 1)))) by
                          rw [SNN, List.length_append, row_snoc]; exact hown')
                        have BE := Lib.hid ((Buf.then_ BJ.out (new_block (.cells #[.int .i64 on, .int .i64 off', .int .i64 pk] 37))).grown hg (by simp; omega) (fun b hb => (own.out.lt b hb).1))
                        clear hown' hg own hLI SNN
                        go_wp2_with fail
                        go_roundw
                        case rel => exact ⟨j + 1, by omega, by go_num, OE, BE⟩
                        case measure => simp [intOf]; omega
                      · rw [if_neg hon, List.append_nil] at SNN
                        have OE := Lib.hid (show w2'.ownsRow w9.heap.size 37 3 u22 (selL (L1 : Int) (Q.take (j + 1))).length (row (selL (L1 : Int) (Q.take (j + 1)))) by
                          rw [SNN]; exact own.out)
                        have hon' : on < (L1 : Int) := by omega
                        go_wp2_with fail
                        clear hLI
                        go_roundw
                        case rel => exact ⟨j + 1, by omega, by go_num, OE, BJ⟩
                        case measure => simp [intOf]; omega
                    · have hjn : Q.take j = Q := List.take_of_length_le (by rw [hnq.out]; omega)
                      rw [hjn, SEL.out] at O
                      have TR := ts_of O.out
                      rw [hn2.out] at TR
                      replace hT2 := Lib.hid (hT2.out.below BJ.out)
                      replace CL7 := Lib.hid (hbk BJ.out CL7.out)
                      replace WW := Lib.hid (Buf.then_ WW.out BJ.out)
                      have SM := Lib.hid (same_any TR hT2.out (by omega))
                      have SN := Lib.hid fun w' (h : Below wr.heap.size wr w') => sane_any (hbk h CL7.out)
                      clear TR O
                      go_wp2_with (first | (go_at_call 13; with_reducible refine SM.out.mono ?_; rintro e w10 ⟨rfl, hb⟩; have B10 := Lib.hid hb) | (go_at_call 7; with_reducible refine (SN.out _ B10.out).mono ?_; rintro e w11 ⟨rfl, hb11⟩))
                      go_ret
                      exact ⟨rfl, Buf.then_ (Buf.then_ WW.out hb) hb11⟩
              · have hNL' : ¬ (L : Int) ≤ (N : Int) := by omega
                go_wp2_with (go_at_call 7; with_reducible refine SN.out.mono ?_; rintro e w9 ⟨rfl, hb⟩)
                go_ret
                exact ⟨rfl, Buf.then_ WW.out hb⟩
  · have hd : decide ((len0 : Int) ≤ 500) = false := by simp; omega
    have SN := Lib.hid (sane_any hcl)
    go_enter Tryd.func4, Tryd.ntmps4
    go_wp2_with (first | (go_at_call 6; refine (light_any _ _ _ _).mono ?_; rintro e w1 ⟨rfl, rfl⟩; rw [hd]) | (go_at_call 7; with_reducible refine SN.out.mono ?_; rintro e w2 ⟨rfl, hc⟩))
    go_ret
    exact ⟨rfl, hc⟩
end Laws
end Go.Proofs.YtldaocfkmahedaaDoor
