/- The walk of ReceiverExact. -/
import Derived.Test.YtfmhfhggogjbkaaRxO
import Derived.Test.YtfmhfhggogjbkaaMidN
import Derived.Test.YtfmhfhggogjbkaaInvS
import Derived.Test.YtfmhfhggogjbkaaRes
import Derived.Laws.Rows
import Derived.RegionTactic
import Derived.Deep.DeepCutAuto
set_option linter.unusedVariables false
set_option linter.unusedSimpArgs false
namespace Go.Proofs.Ytfmhfhggogjbkaa
open Go.RowKit Dice
namespace Laws
open Rx Spn
open Sp (Spans own_below own_shape own_mono cells2)
theorem itw_apart {w : World} {v : Value} {L : LP} {d : Nat} (h : Itw w v L) (hd : w.heap.size ≤ d) : L ≠ [] → v.ownBlock ≠ some d := Spn.Itw.apart h hd
theorem row_keep {w w' : World} {a : Option Addr} {len cap : Nat} {zs : List Int} (h : Buf.IsRow .i64 w a len cap zs) (hb : Below w.heap.size w w') : Buf.IsRow .i64 w' a len cap zs := by
  rcases h with h | ⟨x, e, h1, h2, h3, h4, h5⟩
  · exact .inl h
  · exact .inr ⟨x, e, h1, h2, h3, fun i hi => by
      have h := h4 i hi
      exact (hb.cell (Nat.lt_of_not_le fun hh => by unfold World.cell? at h; rw [Array.getElem?_eq_none hh] at h; cases h)).trans h, h5⟩
set_option tactic.hygienic false in
set_option maxHeartbeats 16000000 in
set_option maxRecDepth 100000 in
theorem receiverExact_walk (a0 : Option Addr) (len0 cap0 : Nat) (z0 : List Int) (vg vl : Value) (RG RL : LP) (aseq abel anx amo : Int) (w : World) (w0 : Buf.IsRow .i64 w a0 len0 cap0 z0) (rg : Itw w vg RG) (rl : Itw w vl RL) (mg : RG.length ≤ 140737488355328) (ml : RL.length ≤ 140737488355328) (w2 : (Lit.int .i64 aseq).wf = true) (w3 : (Lit.int .i64 abel).wf = true) (w4 : (Lit.int .i64 anx).wf = true) (w5 : (Lit.int .i64 amo).wf = true) :
    Calls Try.prog 4 #[.slice a0 len0 cap0, .agg #[vg, vl], .int .i64 aseq, .int .i64 abel, .int .i64 anx, .int .i64 amo] w fun e w' => e = .returned (.bool true) ∧ Below w.heap.size w w' := by
  have SN := Lib.hid Rcv.sane_any
  obtain ⟨as0, as9⟩ : -9223372036854775808 ≤ aseq ∧ aseq ≤ 9223372036854775807 := Ma.wf_i64 w2
  obtain ⟨ab0, ab9⟩ : -9223372036854775808 ≤ abel ∧ abel ≤ 9223372036854775807 := Ma.wf_i64 w3
  obtain ⟨an0, an9⟩ : -9223372036854775808 ≤ anx ∧ anx ≤ 9223372036854775807 := Ma.wf_i64 w4
  obtain ⟨am0, am9⟩ : -9223372036854775808 ≤ amo ∧ amo ≤ 9223372036854775807 := Ma.wf_i64 w5
  obtain ⟨xa, xc, hv, _⟩ := itw_form rg
  subst hv
  obtain ⟨ya, yc, hv, _⟩ := itw_form rl
  subst hv
  obtain ⟨xn, hxn⟩ : ∃ xn, xn = RG.length := ⟨_, rfl⟩
  rw [← hxn] at rg ⊢
  replace hxn := Lib.hid hxn
  obtain ⟨yn, hyn⟩ : ∃ yn, yn = RL.length := ⟨_, rfl⟩
  rw [← hyn] at rl ⊢
  replace hyn := Lib.hid hyn
  have R0 := Lib.hid rg
  have R1 := Lib.hid rl
  rw [← hxn.out] at mg
  rw [← hyn.out] at ml
  have MX : Hid (IntKind.i64.wrap ((xn : Int) + (yn : Int)) = (xn : Int) + (yn : Int)) := Lib.hid (IntWalk.i64_in _ (by omega))
  clear rg rl w2 w3 w4 w5 mg ml
  go_enter Try.func4, Try.ntmps4
  obtain ⟨wb, hwb⟩ : ∃ wb, wb = w.alloc (.cells #[.slice xa xn xc, .slice ya yn yc] 46) := ⟨_, rfl⟩
  obtain ⟨b7, hb7⟩ : ∃ b7, b7 = w.heap.size := ⟨_, rfl⟩
  have B0 := Lib.hid (show Below w.heap.size w wb by rw [hwb]; exact new_block _)
  have P7 := Lib.hid (show wb.heap[b7]? = some (.cells #[.slice xa xn xc, .slice ya yn yc] 46 (0, 0)) by rw [hwb, hb7]; exact heap_alloc_new w _)
  go_upto_region 1 with fail
  rw [← hwb, ← hb7]
  have hb7' : b7 < wb.heap.size := (Array.getElem?_eq_some_iff.1 P7.out).1
  clear hwb hb7
  by_cases hs : len0 ≤ 500
  · have hd : decide ((len0 : Int) ≤ 500) = true := by simp; omega
    obtain ⟨k0, k1⟩ := Spn.c2 P7.out
    have mx := MX.out
    by_cases hr : xn + yn ≤ 40
    · have hd2 : decide ((40 : Int) < (xn : Int) + (yn : Int)) = false := decide_eq_false (by omega)
      go_upto_region 3 with (go_at_call 11; refine (light_any _ _ _ _).mono ?_; rintro e w1 ⟨rfl, hw⟩; replace hw := hw.symm; subst hw; rw [hd])
      go_wp2_with fail
      refine (roll_any a0 len0 cap0 z0 _ (row_keep w0 B0.out) hs).mono ?_
      rintro e wd ⟨rfl, hdi⟩
      obtain ⟨d, hdd⟩ : ∃ d, d = wb.heap.size := ⟨_, rfl⟩
      rw [← hdd] at hdi hb7' ⊢
      have R2 := Lib.hid (R0.out.keep B0.out)
      have R3 := Lib.hid (R1.out.keep B0.out)
      have XL := Lib.hid (show Lsr d wd (.slice xa xn xc) RG from ⟨(R2.out).keep hdi.bel, by have := hxn.out; omega, itw_apart R2.out (Nat.le_of_eq hdd.symm)⟩)
      have YL := Lib.hid (show Lsr d wd (.slice ya yn yc) RL from ⟨(R3.out).keep hdi.bel, by have := hyn.out; omega, itw_apart R3.out (Nat.le_of_eq hdd.symm)⟩)
      have P7d := Lib.hid (Spn.hop hdi.bel P7.out)
      replace hdd := Lib.hid hdd
      clear hd2 mx k0 k1 R0 R1 R2 R3 MX hr hd right right_1
      go_wp2_with fail
      refine (Rcv.receiver_any hdi).mono ?_
      rintro e w3 ⟨⟨v1, v2, f, g, rfl, RR⟩, hl⟩
      have D3 := Lib.hid hl.di
      replace XL := Lib.hid (XL.out.left hl)
      replace YL := Lib.hid (YL.out.left hl)
      replace P7d := Lib.hid ((hl.far.block b7 (Array.getElem?_eq_some_iff.1 P7d.out).1 (by have := hb7'; simp; omega)).trans P7d.out)
      obtain ⟨⟨G1, i1, s1, l1, n1⟩, ⟨L1, i2, s2, l2, n2⟩, ap⟩ := RR
      have AP := Lib.hid (show ∀ x, (hasB G1 x && hasB L1 x) = false from fun x => by rw [s1.has, s2.has]; exact ap x)
      have OG1 := Lib.hid s1.canon.one
      have OL1 := Lib.hid s2.canon.one
      have A1 := Lib.hid (show Lsr d w3 v1 G1 from ⟨i1.wide, by omega, i1.apart (Rcv.dice_cell hl.di)⟩)
      have A2 := Lib.hid (show Lsr d w3 v2 L1 from ⟨i2.wide, by omega, i2.apart (Rcv.dice_cell hl.di)⟩)
      have L32 := Lib.hid l2
      obtain ⟨ga, gc, rfl, _⟩ := its_form i1
      obtain ⟨la, lc, rfl, _⟩ := its_form i2
      obtain ⟨gn, hgn⟩ : ∃ gn, gn = G1.length := ⟨_, rfl⟩
      obtain ⟨ln, hln⟩ : ∃ ln, ln = L1.length := ⟨_, rfl⟩
      rw [← hgn] at A1 ⊢
      rw [← hln] at A2 ⊢
      replace hgn := Lib.hid hgn
      replace hln := Lib.hid hln
      clear i1 i2 s1 s2 l1 l2 n1 n2 ap hl hdi
      have N14 := Lib.hid (heap_alloc_new w3 (.cells #[.slice none 0 0, .slice none 0 0] 46))
      go_upto_region 5 with (first | ((with_reducible refine Mid.str 46 (.tmp 14) (.tmp 59) w3.heap.size 46 #[.slice none 0 0, .slice none 0 0] #[.slice ga gn gc, .slice la ln lc] N14.out ?_ ?_ ?_ ?_ ?_ ?_ ?_ ?_); (· rfl); (· rfl); (· first | rfl | simp [Act.eval]); (· first | rfl | simp [Act.eval]); (· kernel_rfl); (· rfl); (· simp [Value.oneCell'])) | fail)
      obtain ⟨b14, hb14⟩ : ∃ b14, b14 = w3.heap.size := ⟨_, rfl⟩
      obtain ⟨w4, hw4⟩ : ∃ w4, w4 = (w3.alloc (.cells #[.slice none 0 0, .slice none 0 0] 46)).setRow w3.heap.size #[.slice ga gn gc, .slice la ln lc] := ⟨_, rfl⟩
      have B4 : Below w3.heap.size w3 w4 := by rw [hw4]; exact Mid.below_row (new_block _) _ _ (Nat.le_refl _)
      have P14 := Lib.hid (show w4.heap[b14]? = some (.cells #[.slice ga gn gc, .slice la ln lc] 46 (0, 0)) by rw [hw4, hb14]; exact setRow_heap _ _ _ _ _ _ N14.out)
      have N14d : b14 ≠ d := by have := D3.out.lt; omega
      replace D3 := Lib.hid (D3.out.below B4)
      replace XL := Lib.hid (XL.out.keep B4)
      replace YL := Lib.hid (YL.out.keep B4)
      replace P7d := Lib.hid (Spn.hop B4 P7d.out)
      replace A1 := Lib.hid (A1.out.keep B4)
      replace A2 := Lib.hid (A2.out.keep B4)
      rw [← hw4, ← hb14]
      clear N14 hw4 hb14 B4 right right_1
      have A2L := Lib.hid (show L1.length ≤ 32 from L32.out)
      obtain ⟨N, hN⟩ : ∃ N, N = w4.heap.size := ⟨_, rfl⟩
      have hdN : d < N := by rw [hN]; exact D3.out.lt
      have HN := Lib.hid hN
      clear hN
      have PK := Lib.hid fun wx (hl : Dice.Left wb w4 wx d a0 len0 cap0 z0) => Spn.c2 ((hl.far.block b14 (Array.getElem?_eq_some_iff.1 P14.out).1 (by simp; omega)).trans P14.out)
      have SZ := Lib.hid fun wx (hl : Dice.Left wb w4 wx d a0 len0 cap0 z0) => Nat.le_trans (Nat.le_of_eq HN.out) hl.far.size
      have hw0 : Dice.Left wb w4 w4.drew d a0 len0 cap0 z0 := (Dice.Left.refl D3.out).below (Below.refl _ _).drew
      refine wp_region_noPanic ?_
      refine wp_region_any (by kernel_rfl) ?_
      refine InvS.wpAny_inv (fun k => k == 15) [60, 61, 62, 63, 64, 65, 66, 67, 68, 69, 70, 71, 72, 73, 15] (fun w' => Dice.Left wb w4 w' d a0 len0 cap0 z0) (fun k w1' w2' => RrO N G1 L1 k w1' w2') (fun k => ([fun s_ w_ => (s_ 60) = .pointer (some ⟨b14, 0, none⟩), fun s_ w_ => (s_ 61) = .slice ga gn gc, fun s_ w_ => ∃ a n c, (s_ 62) = .slice a n c ∧ OG N G1 (.slice a n c) w_, fun s_ w_ => (s_ 63) = .pointer (some ⟨b14, 1, none⟩), fun s_ w_ => (s_ 64) = .slice la ln lc, fun s_ w_ => ∃ a n c, (s_ 65) = .slice a n c ∧ OG N L1 (.slice a n c) w_, fun s_ w_ => (s_ 66) = .pointer (some ⟨d, 0, none⟩), fun s_ w_ => ∃ y : Int, (s_ 67) = .int .i64 y, fun s_ w_ => (s_ 68) = .pointer (some ⟨d, 0, none⟩), fun s_ w_ => ∃ y : Int, (s_ 69) = .int .i64 y, fun s_ w_ => ∃ y z : Int, (s_ 70) = .agg #[.int .i64 y, .int .i64 z], fun s_ w_ => ∃ (h : Nat) (y z : Int), (s_ 71) = .slice (some ⟨h, 0, none⟩) 1 1 ∧ N ≤ h ∧ w_.heap[h]? = some (.cells #[.int .i64 y, .int .i64 z] 49 (0, 0)), fun s_ w_ => ∃ (a : Option Addr) (n c : Nat) (y z : Int), (s_ 72) = .slice a n c ∧ Spans w_ N (.slice a n c) (L1 ++ [(y, z)]), fun s_ w_ => (s_ 73) = .agg #[(s_ 62), (s_ 72)], fun s_ w_ => ∃ p : Nat, (s_ 15) = .pointer (some ⟨p, 0, none⟩) ∧ N ≤ p ∧ w_.heap[p]? = some (.cells #[.slice none 0 0, .slice none 0 0] 46 (0, 0)), fun s_ w_ => True] : List ((Nat → Value) → World → Prop)).getD k (fun _ _ => True)) _ (fun σ => by simp only [Inv.putAll, List.foldl_cons, List.foldl_nil, Act.put, List.setIfInBounds_toArray, List.set_cons_zero, List.set_cons_succ]; rfl) (by kernel_rfl) (by kernel_rfl) ?_ hw0 ?_ ?_ 1 #[true, true, true, true, true, true, true, true, true, true, true, true, true, true, true, false] (by kernel_rfl) (by kernel_rfl) ?_
      · intro j k oj σ v w1 w2 hoj hlj hjk hdp hv hr
        rcases k with _ | k
        · have hS : oj.dst ≠ some 60 := by
            clear hv hr
            rcases j with _ | _ | _ | _ | _ | _ | _ | _ | _ | _ | _ | _ | _ | _ | _ | _ | j
            all_goals first | exact absurd rfl hjk | exact absurd hdp (by decide +kernel) | (simp only [List.getElem?_toArray, List.getElem?_cons_zero, List.getElem?_cons_succ, Option.some.injEq] at hoj; subst hoj; decide) | exact absurd (Array.getElem?_eq_some_iff.1 hoj).1 (by simp)
          simp only [List.getD_cons_zero, List.getD_cons_succ, InvS.updo_ne hS] at hv ⊢
          exact hv
        rcases k with _ | k
        · have hS : oj.dst ≠ some 61 := by
            clear hv hr
            rcases j with _ | _ | _ | _ | _ | _ | _ | _ | _ | _ | _ | _ | _ | _ | _ | _ | j
            all_goals first | exact absurd rfl hjk | exact absurd hdp (by decide +kernel) | (simp only [List.getElem?_toArray, List.getElem?_cons_zero, List.getElem?_cons_succ, Option.some.injEq] at hoj; subst hoj; decide) | exact absurd (Array.getElem?_eq_some_iff.1 hoj).1 (by simp)
          simp only [List.getD_cons_zero, List.getD_cons_succ, InvS.updo_ne hS] at hv ⊢
          exact hv
        rcases k with _ | k
        · have hS : oj.dst ≠ some 62 := by
            clear hv hr
            rcases j with _ | _ | _ | _ | _ | _ | _ | _ | _ | _ | _ | _ | _ | _ | _ | _ | j
            all_goals first | exact absurd rfl hjk | exact absurd hdp (by decide +kernel) | (simp only [List.getElem?_toArray, List.getElem?_cons_zero, List.getElem?_cons_succ, Option.some.injEq] at hoj; subst hoj; decide) | exact absurd (Array.getElem?_eq_some_iff.1 hoj).1 (by simp)
          simp only [List.getD_cons_zero, List.getD_cons_succ, InvS.updo_ne hS] at hv ⊢
          exact (by obtain ⟨a, n, c, e, h⟩ := hv; exact ⟨a, n, c, e, hr.A _ h⟩)
        rcases k with _ | k
        · have hS : oj.dst ≠ some 63 := by
            clear hv hr
            rcases j with _ | _ | _ | _ | _ | _ | _ | _ | _ | _ | _ | _ | _ | _ | _ | _ | j
            all_goals first | exact absurd rfl hjk | exact absurd hdp (by decide +kernel) | (simp only [List.getElem?_toArray, List.getElem?_cons_zero, List.getElem?_cons_succ, Option.some.injEq] at hoj; subst hoj; decide) | exact absurd (Array.getElem?_eq_some_iff.1 hoj).1 (by simp)
          simp only [List.getD_cons_zero, List.getD_cons_succ, InvS.updo_ne hS] at hv ⊢
          exact hv
        rcases k with _ | k
        · have hS : oj.dst ≠ some 64 := by
            clear hv hr
            rcases j with _ | _ | _ | _ | _ | _ | _ | _ | _ | _ | _ | _ | _ | _ | _ | _ | j
            all_goals first | exact absurd rfl hjk | exact absurd hdp (by decide +kernel) | (simp only [List.getElem?_toArray, List.getElem?_cons_zero, List.getElem?_cons_succ, Option.some.injEq] at hoj; subst hoj; decide) | exact absurd (Array.getElem?_eq_some_iff.1 hoj).1 (by simp)
          simp only [List.getD_cons_zero, List.getD_cons_succ, InvS.updo_ne hS] at hv ⊢
          exact hv
        rcases k with _ | k
        · have hS : oj.dst ≠ some 65 := by
            clear hv hr
            rcases j with _ | _ | _ | _ | _ | _ | _ | _ | _ | _ | _ | _ | _ | _ | _ | _ | j
            all_goals first | exact absurd rfl hjk | exact absurd hdp (by decide +kernel) | (simp only [List.getElem?_toArray, List.getElem?_cons_zero, List.getElem?_cons_succ, Option.some.injEq] at hoj; subst hoj; decide) | exact absurd (Array.getElem?_eq_some_iff.1 hoj).1 (by simp)
          simp only [List.getD_cons_zero, List.getD_cons_succ, InvS.updo_ne hS] at hv ⊢
          exact (by obtain ⟨a, n, c, e, h⟩ := hv; exact ⟨a, n, c, e, hr.B_ _ h⟩)
        rcases k with _ | k
        · have hS : oj.dst ≠ some 66 := by
            clear hv hr
            rcases j with _ | _ | _ | _ | _ | _ | _ | _ | _ | _ | _ | _ | _ | _ | _ | _ | j
            all_goals first | exact absurd rfl hjk | exact absurd hdp (by decide +kernel) | (simp only [List.getElem?_toArray, List.getElem?_cons_zero, List.getElem?_cons_succ, Option.some.injEq] at hoj; subst hoj; decide) | exact absurd (Array.getElem?_eq_some_iff.1 hoj).1 (by simp)
          simp only [List.getD_cons_zero, List.getD_cons_succ, InvS.updo_ne hS] at hv ⊢
          exact hv
        rcases k with _ | k
        · have hS : oj.dst ≠ some 67 := by
            clear hv hr
            rcases j with _ | _ | _ | _ | _ | _ | _ | _ | _ | _ | _ | _ | _ | _ | _ | _ | j
            all_goals first | exact absurd rfl hjk | exact absurd hdp (by decide +kernel) | (simp only [List.getElem?_toArray, List.getElem?_cons_zero, List.getElem?_cons_succ, Option.some.injEq] at hoj; subst hoj; decide) | exact absurd (Array.getElem?_eq_some_iff.1 hoj).1 (by simp)
          simp only [List.getD_cons_zero, List.getD_cons_succ, InvS.updo_ne hS] at hv ⊢
          exact hv
        rcases k with _ | k
        · have hS : oj.dst ≠ some 68 := by
            clear hv hr
            rcases j with _ | _ | _ | _ | _ | _ | _ | _ | _ | _ | _ | _ | _ | _ | _ | _ | j
            all_goals first | exact absurd rfl hjk | exact absurd hdp (by decide +kernel) | (simp only [List.getElem?_toArray, List.getElem?_cons_zero, List.getElem?_cons_succ, Option.some.injEq] at hoj; subst hoj; decide) | exact absurd (Array.getElem?_eq_some_iff.1 hoj).1 (by simp)
          simp only [List.getD_cons_zero, List.getD_cons_succ, InvS.updo_ne hS] at hv ⊢
          exact hv
        rcases k with _ | k
        · have hS : oj.dst ≠ some 69 := by
            clear hv hr
            rcases j with _ | _ | _ | _ | _ | _ | _ | _ | _ | _ | _ | _ | _ | _ | _ | _ | j
            all_goals first | exact absurd rfl hjk | exact absurd hdp (by decide +kernel) | (simp only [List.getElem?_toArray, List.getElem?_cons_zero, List.getElem?_cons_succ, Option.some.injEq] at hoj; subst hoj; decide) | exact absurd (Array.getElem?_eq_some_iff.1 hoj).1 (by simp)
          simp only [List.getD_cons_zero, List.getD_cons_succ, InvS.updo_ne hS] at hv ⊢
          exact hv
        rcases k with _ | k
        · have hS : oj.dst ≠ some 70 := by
            clear hv hr
            rcases j with _ | _ | _ | _ | _ | _ | _ | _ | _ | _ | _ | _ | _ | _ | _ | _ | j
            all_goals first | exact absurd rfl hjk | exact absurd hdp (by decide +kernel) | (simp only [List.getElem?_toArray, List.getElem?_cons_zero, List.getElem?_cons_succ, Option.some.injEq] at hoj; subst hoj; decide) | exact absurd (Array.getElem?_eq_some_iff.1 hoj).1 (by simp)
          simp only [List.getD_cons_zero, List.getD_cons_succ, InvS.updo_ne hS] at hv ⊢
          exact hv
        rcases k with _ | k
        · have hS : oj.dst ≠ some 71 := by
            clear hv hr
            rcases j with _ | _ | _ | _ | _ | _ | _ | _ | _ | _ | _ | _ | _ | _ | _ | _ | j
            all_goals first | exact absurd rfl hjk | exact absurd hdp (by decide +kernel) | (simp only [List.getElem?_toArray, List.getElem?_cons_zero, List.getElem?_cons_succ, Option.some.injEq] at hoj; subst hoj; decide) | exact absurd (Array.getElem?_eq_some_iff.1 hoj).1 (by simp)
          simp only [List.getD_cons_zero, List.getD_cons_succ, InvS.updo_ne hS] at hv ⊢
          exact (by obtain ⟨h, y, z, e, h1, h2⟩ := hv; exact ⟨h, y, z, e, h1, hr.C h h1 _ _ h2 (.inl rfl)⟩)
        rcases k with _ | k
        · have hS : oj.dst ≠ some 72 := by
            clear hv hr
            rcases j with _ | _ | _ | _ | _ | _ | _ | _ | _ | _ | _ | _ | _ | _ | _ | _ | j
            all_goals first | exact absurd rfl hjk | exact absurd hdp (by decide +kernel) | (simp only [List.getElem?_toArray, List.getElem?_cons_zero, List.getElem?_cons_succ, Option.some.injEq] at hoj; subst hoj; decide) | exact absurd (Array.getElem?_eq_some_iff.1 hoj).1 (by simp)
          simp only [List.getD_cons_zero, List.getD_cons_succ, InvS.updo_ne hS] at hv ⊢
          exact (by obtain ⟨a, n, c, y, z, e, h⟩ := hv; exact ⟨a, n, c, y, z, e, hr.D hjk _ _ h⟩)
        rcases k with _ | k
        · have hS : oj.dst ≠ some 73 ∧ oj.dst ≠ some 62 ∧ oj.dst ≠ some 72 := by
            clear hv hr
            rcases j with _ | _ | _ | _ | _ | _ | _ | _ | _ | _ | _ | _ | _ | _ | _ | _ | j
            all_goals first | exact absurd rfl hjk | exact absurd hdp (by decide +kernel) | (simp only [List.getElem?_toArray, List.getElem?_cons_zero, List.getElem?_cons_succ, Option.some.injEq] at hoj; subst hoj; decide) | exact absurd (Array.getElem?_eq_some_iff.1 hoj).1 (by simp)
          simp only [List.getD_cons_zero, List.getD_cons_succ, InvS.updo_ne hS.1, InvS.updo_ne hS.2.1, InvS.updo_ne hS.2.2] at hv ⊢
          exact hv
        rcases k with _ | k
        · have hS : oj.dst ≠ some 15 := by
            clear hv hr
            rcases j with _ | _ | _ | _ | _ | _ | _ | _ | _ | _ | _ | _ | _ | _ | _ | _ | j
            all_goals first | exact absurd rfl hjk | exact absurd hdp (by decide +kernel) | (simp only [List.getElem?_toArray, List.getElem?_cons_zero, List.getElem?_cons_succ, Option.some.injEq] at hoj; subst hoj; decide) | exact absurd (Array.getElem?_eq_some_iff.1 hoj).1 (by simp)
          simp only [List.getD_cons_zero, List.getD_cons_succ, InvS.updo_ne hS] at hv ⊢
          exact (by obtain ⟨p, e, h1, h2⟩ := hv; exact ⟨p, e, h1, hr.C p h1 _ _ h2 (.inl rfl)⟩)
        rcases k with _ | k
        · exact trivial
        · exact trivial
      · intro k hl
        rcases k with _ | k
        · exact absurd hl (by decide +kernel)
        rcases k with _ | k
        · exact absurd hl (by decide +kernel)
        rcases k with _ | k
        · exact absurd hl (by decide +kernel)
        rcases k with _ | k
        · exact absurd hl (by decide +kernel)
        rcases k with _ | k
        · exact absurd hl (by decide +kernel)
        rcases k with _ | k
        · exact absurd hl (by decide +kernel)
        rcases k with _ | k
        · exact absurd hl (by decide +kernel)
        rcases k with _ | k
        · exact absurd hl (by decide +kernel)
        rcases k with _ | k
        · exact absurd hl (by decide +kernel)
        rcases k with _ | k
        · exact absurd hl (by decide +kernel)
        rcases k with _ | k
        · exact absurd hl (by decide +kernel)
        rcases k with _ | k
        · exact absurd hl (by decide +kernel)
        rcases k with _ | k
        · exact absurd hl (by decide +kernel)
        rcases k with _ | k
        · exact absurd hl (by decide +kernel)
        rcases k with _ | k
        · exact absurd hl (by decide +kernel)
        rcases k with _ | k
        · exact absurd hl (by decide +kernel)
        · exact trivial
      · show InvS.Steps _ _ _ _ _ _ _ _ [0, 1, 2, 3, 4, 5, 6, 7, 8, 9, 10, 11, 12, 13, 14]
        refine InvS.Steps.go (by decide) (by rfl) (fun σ wx hw hd K hK => ?_) ?_
        · simp only [List.getElem_toArray, List.getElem_cons_zero, List.getElem_cons_succ, Act.put, List.setIfInBounds_toArray, List.set_cons_zero, List.set_cons_succ] at hK ⊢
          go_simp
          exact hK.out _ _ hw (RrO.below (Below.refl _ _)) (by rfl)
        refine InvS.Steps.go (by decide) (by rfl) (fun σ wx hw hd K hK => ?_) ?_
        · obtain e60 : (σ 60) = .pointer (some ⟨b14, 0, none⟩) := hd 0 (some 60) (by kernel_rfl) (by rfl)
          simp only [List.getElem_toArray, List.getElem_cons_zero, List.getElem_cons_succ, Act.put, List.setIfInBounds_toArray, List.set_cons_zero, List.set_cons_succ, e60] at hK ⊢
          obtain ⟨k0, k1_⟩ := PK.out _ hw
          go_simp
          exact hK.out _ _ hw (RrO.below (Below.refl _ _)) (by rfl)
        refine InvS.Steps.go (by decide) (by rfl) (fun σ wx hw hd K hK => ?_) ?_
        · obtain e61 : (σ 61) = .slice ga gn gc := hd 1 (some 61) (by kernel_rfl) (by rfl)
          simp only [List.getElem_toArray, List.getElem_cons_zero, List.getElem_cons_succ, Act.put, List.setIfInBounds_toArray, List.set_cons_zero, List.set_cons_succ, e61] at hK ⊢
          refine wp_copyw (.tmp 61) rfl (show _ = _ by first | rfl | simp [Act.eval]) (A1.out.left hw).its (by have := A1.out.len; omega) ?_
          intro v_ w_ o_ b_
          obtain ⟨a_, c_, e_⟩ := o_.form
          subst e_
          exact hK.out _ _ (hw.below b_) (RrO.below b_) (⟨_, _, _, by rfl, Sp.own_mono o_.1 (SZ.out _ hw), o_.2⟩)
        refine InvS.Steps.go (by decide) (by rfl) (fun σ wx hw hd K hK => ?_) ?_
        · simp only [List.getElem_toArray, List.getElem_cons_zero, List.getElem_cons_succ, Act.put, List.setIfInBounds_toArray, List.set_cons_zero, List.set_cons_succ] at hK ⊢
          go_simp
          exact hK.out _ _ hw (RrO.below (Below.refl _ _)) (by rfl)
        refine InvS.Steps.go (by decide) (by rfl) (fun σ wx hw hd K hK => ?_) ?_
        · obtain e63 : (σ 63) = .pointer (some ⟨b14, 1, none⟩) := hd 3 (some 63) (by kernel_rfl) (by rfl)
          simp only [List.getElem_toArray, List.getElem_cons_zero, List.getElem_cons_succ, Act.put, List.setIfInBounds_toArray, List.set_cons_zero, List.set_cons_succ, e63] at hK ⊢
          obtain ⟨k0, k1_⟩ := PK.out _ hw
          go_simp
          exact hK.out _ _ hw (RrO.below (Below.refl _ _)) (by rfl)
        refine InvS.Steps.go (by decide) (by rfl) (fun σ wx hw hd K hK => ?_) ?_
        · obtain e64 : (σ 64) = .slice la ln lc := hd 4 (some 64) (by kernel_rfl) (by rfl)
          simp only [List.getElem_toArray, List.getElem_cons_zero, List.getElem_cons_succ, Act.put, List.setIfInBounds_toArray, List.set_cons_zero, List.set_cons_succ, e64] at hK ⊢
          refine wp_copyw (.tmp 64) rfl (show _ = _ by first | rfl | simp [Act.eval]) (A2.out.left hw).its (by have := A2.out.len; omega) ?_
          intro v_ w_ o_ b_
          obtain ⟨a_, c_, e_⟩ := o_.form
          subst e_
          exact hK.out _ _ (hw.below b_) (RrO.below b_) (⟨_, _, _, by rfl, Sp.own_mono o_.1 (SZ.out _ hw), o_.2⟩)
        refine InvS.Steps.go (by decide) (by rfl) (fun σ wx hw hd K hK => ?_) ?_
        · simp only [List.getElem_toArray, List.getElem_cons_zero, List.getElem_cons_succ, Act.put, List.setIfInBounds_toArray, List.set_cons_zero, List.set_cons_succ] at hK ⊢
          go_simp
          exact hK.out _ _ hw (RrO.below (Below.refl _ _)) (by rfl)
        refine InvS.Steps.go (by decide) (by rfl) (fun σ wx hw hd K hK => ?_) ?_
        · obtain e66 : (σ 66) = .pointer (some ⟨d, 0, none⟩) := hd 6 (some 66) (by kernel_rfl) (by rfl)
          simp only [List.getElem_toArray, List.getElem_cons_zero, List.getElem_cons_succ, Act.put, List.setIfInBounds_toArray, List.set_cons_zero, List.set_cons_succ, e66] at hK ⊢
          go_simp
          go_at_call 26
          refine (next_any 20 hw.di (by omega) (by omega)).mono ?_
          rintro e w1 ⟨⟨y_, rfl, _, _⟩, hl_⟩
          dsimp only
          exact hK.out _ _ (hw.trans hl_) (RrO.far hl_.far hdN) (⟨y_, by rfl⟩)
        refine InvS.Steps.go (by decide) (by rfl) (fun σ wx hw hd K hK => ?_) ?_
        · simp only [List.getElem_toArray, List.getElem_cons_zero, List.getElem_cons_succ, Act.put, List.setIfInBounds_toArray, List.set_cons_zero, List.set_cons_succ] at hK ⊢
          go_simp
          exact hK.out _ _ hw (RrO.below (Below.refl _ _)) (by rfl)
        refine InvS.Steps.go (by decide) (by rfl) (fun σ wx hw hd K hK => ?_) ?_
        · obtain e68 : (σ 68) = .pointer (some ⟨d, 0, none⟩) := hd 8 (some 68) (by kernel_rfl) (by rfl)
          simp only [List.getElem_toArray, List.getElem_cons_zero, List.getElem_cons_succ, Act.put, List.setIfInBounds_toArray, List.set_cons_zero, List.set_cons_succ, e68] at hK ⊢
          go_simp
          go_at_call 26
          refine (next_any 30 hw.di (by omega) (by omega)).mono ?_
          rintro e w1 ⟨⟨y_, rfl, _, _⟩, hl_⟩
          dsimp only
          exact hK.out _ _ (hw.trans hl_) (RrO.far hl_.far hdN) (⟨y_, by rfl⟩)
        refine InvS.Steps.go (by decide) (by rfl) (fun σ wx hw hd K hK => ?_) ?_
        · obtain ⟨y1, e67⟩ : ∃ y : Int, (σ 67) = .int .i64 y := hd 7 (some 67) (by kernel_rfl) (by rfl)
          obtain ⟨y2, e69⟩ : ∃ y : Int, (σ 69) = .int .i64 y := hd 9 (some 69) (by kernel_rfl) (by rfl)
          simp only [List.getElem_toArray, List.getElem_cons_zero, List.getElem_cons_succ, Act.put, List.setIfInBounds_toArray, List.set_cons_zero, List.set_cons_succ, e67, e69] at hK ⊢
          go_simp
          exact hK.out _ _ hw (RrO.below (Below.refl _ _)) (⟨_, _, by rfl⟩)
        refine InvS.Steps.go (by decide) (by rfl) (fun σ wx hw hd K hK => ?_) ?_
        · obtain ⟨y1, y2, e70⟩ : ∃ y z : Int, (σ 70) = .agg #[.int .i64 y, .int .i64 z] := hd 10 (some 70) (by kernel_rfl) (by rfl)
          simp only [List.getElem_toArray, List.getElem_cons_zero, List.getElem_cons_succ, Act.put, List.setIfInBounds_toArray, List.set_cons_zero, List.set_cons_succ, e70] at hK ⊢
          go_simp
          exact hK.out _ _ (hw.below (new_block _)) (RrO.below (new_block _)) (⟨_, _, _, by rfl, SZ.out _ hw, heap_alloc_new _ _⟩)
        refine InvS.Steps.go (by decide) (by rfl) (fun σ wx hw hd K hK => ?_) ?_
        · obtain ⟨va, vn, vc, e65, O65⟩ : ∃ a n c, (σ 65) = .slice a n c ∧ OG N L1 (.slice a n c) wx := hd 5 (some 65) (by kernel_rfl) (by rfl)
          obtain ⟨hq, y1, y2, e71, hN, P71⟩ : ∃ (h : Nat) (y z : Int), (σ 71) = .slice (some ⟨h, 0, none⟩) 1 1 ∧ N ≤ h ∧ wx.heap[h]? = some (.cells #[.int .i64 y, .int .i64 z] 49 (0, 0)) := hd 11 (some 71) (by kernel_rfl) (by rfl)
          simp only [List.getElem_toArray, List.getElem_cons_zero, List.getElem_cons_succ, Act.put, List.setIfInBounds_toArray, List.set_cons_zero, List.set_cons_succ, e65, e71] at hK ⊢
          obtain ⟨v_, w_, hr_, o_, g_, k_, c_⟩ := app_pre O65 P71 (SZ.out _ hw) (by have := A2.out.len; omega) 23
          refine wp_of_run (.tmp 65) (.tmp 71) rfl (show _ = _ by first | rfl | simp [Act.eval]) (show _ = _ by first | rfl | simp [Act.eval]) hr_ ?_
          obtain ⟨a_, c2_, e_⟩ : ∃ a c, v_ = .slice a (L1 ++ [(y1, y2)]).length c := by obtain ⟨a, c, e, _⟩ := its_form (its_of_own o_); exact ⟨a, c, e⟩
          subst e_
          exact hK.out _ _ (left_app hw g_ O65.1 hdN HN.out) (RrO.app O65 g_ k_ c_ AP.out OG1.out OL1.out) (⟨_, _, _, y1, y2, by rfl, o_⟩)
        refine InvS.Steps.go (by decide) (by rfl) (fun σ wx hw hd K hK => ?_) ?_
        · obtain ⟨ua, un, uc, e62, O62⟩ : ∃ a n c, (σ 62) = .slice a n c ∧ OG N G1 (.slice a n c) wx := hd 2 (some 62) (by kernel_rfl) (by rfl)
          obtain ⟨xa2, xn2, xc2, y1, y2, e72, O72⟩ : ∃ (a : Option Addr) (n c : Nat) (y z : Int), (σ 72) = .slice a n c ∧ Spans wx N (.slice a n c) (L1 ++ [(y, z)]) := hd 12 (some 72) (by kernel_rfl) (by rfl)
          simp only [List.getElem_toArray, List.getElem_cons_zero, List.getElem_cons_succ, Act.put, List.setIfInBounds_toArray, List.set_cons_zero, List.set_cons_succ, e62, e72] at hK ⊢
          go_simp
          exact hK.out _ _ hw (RrO.below (Below.refl _ _)) (by simp [InvS.updo, Inv.upd, e62, e72])
        refine InvS.Steps.go (by decide) (by rfl) (fun σ wx hw hd K hK => ?_) ?_
        · simp only [List.getElem_toArray, List.getElem_cons_zero, List.getElem_cons_succ, Act.put, List.setIfInBounds_toArray, List.set_cons_zero, List.set_cons_succ] at hK ⊢
          go_simp
          exact hK.out _ _ (hw.below (new_block _)) (RrO.below (new_block _)) (⟨_, by rfl, SZ.out _ hw, heap_alloc_new _ _⟩)
        exact InvS.Steps.nil
      · intro σ wx hw hd
        obtain e73 : (σ 73) = .agg #[(σ 62), (σ 72)] := hd 13 (by decide) (by rfl)
        obtain ⟨ua, un, uc, e62, O62⟩ : ∃ a n c, (σ 62) = .slice a n c ∧ OG N G1 (.slice a n c) wx := hd 2 (by decide) (by rfl)
        obtain ⟨xa2, xn2, xc2, y1, y2, e72, O72⟩ : ∃ (a : Option Addr) (n c : Nat) (y z : Int), (σ 72) = .slice a n c ∧ Spans wx N (.slice a n c) (L1 ++ [(y, z)]) := hd 12 (by decide) (by rfl)
        obtain ⟨p15, e15, hp15, P15⟩ : ∃ p : Nat, (σ 15) = .pointer (some ⟨p, 0, none⟩) ∧ N ≤ p ∧ wx.heap[p]? = some (.cells #[.slice none 0 0, .slice none 0 0] 46 (0, 0)) := hd 14 (by decide) (by rfl)
        rw [e62, e72] at e73
        obtain ⟨k0, k1_⟩ := Spn.c2 P15
        have f0 := frozen_of_row wx p15 0 _ _ P15
        have f1 := frozen_of_row wx p15 1 _ _ P15
        simp only [e15, e73]
        refine Inv.one (i := 15) (by decide) (by kernel_rfl) (by rfl) (fun K hK => ?_)
        simp only [List.getElem_toArray, List.getElem_cons_zero, List.getElem_cons_succ, Act.put, List.setIfInBounds_toArray, List.set_cons_zero, List.set_cons_succ] at hK ⊢
        go_simp
        refine hK.out _ _ ?_
        clear hK K
        refine Inv.done (by kernel_rfl) (NoPanic.normal ?_)
        have Q8 := (heap_setCell_same wx p15 0 _ _ (.slice ua un uc) P15).trans rfl
        have P15T := Lib.hid ((heap_setCell_same (wx.setCell ⟨p15, 0, none⟩ (.slice ua un uc)) p15 1 _ _ (.slice xa2 xn2 xc2) Q8).trans rfl)
        have BT : Below w4.heap.size wx ((wx.setCell ⟨p15, 0, none⟩ (.slice ua un uc)).setCell ⟨p15, 1, none⟩ (.slice xa2 xn2 xc2)) := by rw [← HN.out]; exact ((Below.refl _ _).setCell (p := ⟨p15, 0, none⟩) hp15 _).setCell (p := ⟨p15, 1, none⟩) hp15 _
        have LT := Dice.Left.past D3.out hw BT
        have ob : ∀ v M, Spans wx N v M → M ≠ [] → v.ownBlock ≠ some d := fun v M O _ e => by have := (O.lt d e).1; omega
        have C1 := Lib.hid (show Lsr d _ (.slice ua un uc) G1 from ⟨Rx.Itw.set (Rx.Itw.set (its_of_own O62.1).wide P15 (o := 0) (.slice ua un uc)) Q8 (o := 1) (.slice xa2 xn2 xc2), A1.out.len, ob _ _ O62.1⟩)
        have C2 := Lib.hid (show Lsr d _ (.slice xa2 xn2 xc2) (L1 ++ [(y1, y2)]) from ⟨Rx.Itw.set (Rx.Itw.set (its_of_own O72).wide P15 (o := 0) (.slice ua un uc)) Q8 (o := 1) (.slice xa2 xn2 xc2), by have := A2L.out; simp; omega, ob _ _ O72⟩)
        clear hd k0 k1_ f0 f1 P15 O62 O72 hw e15 e73 e62 e72 Q8 ob
        generalize (wx.setCell ⟨p15, 0, none⟩ (.slice ua un uc)).setCell ⟨p15, 1, none⟩ (.slice xa2 xn2 xc2) = wT at *
        replace XL := Lib.hid (XL.out.left LT)
        replace YL := Lib.hid (YL.out.left LT)
        replace A1 := Lib.hid (A1.out.left LT)
        replace A2 := Lib.hid (A2.out.left LT)
        replace P14 := Lib.hid ((LT.far.block b14 (Array.getElem?_eq_some_iff.1 P14.out).1 (by simp; omega)).trans P14.out)
        replace P7d := Lib.hid ((LT.far.block b7 (Array.getElem?_eq_some_iff.1 P7d.out).1 (by simp; omega)).trans P7d.out)
        replace D3 := Lib.hid LT.di
        clear LT BT PK SZ hw0 HN hdN AP OG1 OL1 N14d hp15 A2L
        obtain ⟨k0, k1⟩ := Spn.c2 P14.out
        obtain ⟨k2, k3⟩ := Spn.c2 P15T.out
        obtain ⟨k4, k5⟩ := Spn.c2 P7d.out
        go_upto_region 7 with fail
        obtain ⟨wA, hwA⟩ : ∃ wA, wA = wT.alloc (.cells #[.slice ga gn gc, .slice la ln lc, .slice ua un uc, .slice xa2 xn2 xc2, .slice xa xn xc, .slice ya yn yc] 46) := ⟨_, rfl⟩
        obtain ⟨bP, hbP⟩ : ∃ bP, bP = wT.heap.size := ⟨_, rfl⟩
        have S0 : Hid (RX wb d a0 len0 cap0 z0 bP (.slice ga gn gc) (.slice la ln lc) (.slice ua un uc) (.slice xa2 xn2 xc2) (.slice xa xn xc) (.slice ya yn yc) G1 L1 G1 (L1 ++ [(y1, y2)]) RG RL wA) := Lib.hid (by
          have BA : Below wT.heap.size wT wA := by rw [hwA]; exact new_block _
          exact ⟨D3.out.below BA, A1.out.keep BA, A2.out.keep BA, C1.out.keep BA, C2.out.keep BA, XL.out.keep BA, YL.out.keep BA, by rw [hwA, hbP]; exact heap_alloc_new wT _, by have := D3.out.lt; omega⟩)
        rw [← hwA, ← hbP]
        clear hwA hbP D3 A1 A2 C1 C2 XL YL k0 k1 k2 k3 k4 k5 P14 P15T P7d P7
        go_loopw [79] (fun i wr => ∃ j : Nat, j ≤ 3 ∧ i = .int .i64 j ∧ Hid (RX wb d a0 len0 cap0 z0 bP (.slice ga gn gc) (.slice la ln lc) (.slice ua un uc) (.slice xa2 xn2 xc2) (.slice xa xn xc) (.slice ya yn yc) G1 L1 G1 (L1 ++ [(y1, y2)]) RG RL wr)) (fun i _ => (3 - intOf i).toNat)
        case atStart => exact ⟨0, by omega, rfl, S0⟩
        case round =>
          clear S0
          obtain ⟨jo, hjo, rfl, O⟩ := hrel
          by_cases hj3 : jo < 3
          · obtain ⟨pa, pn, pc, qa, qn, qc, P, Q, cp, cq, pq⟩ : ∃ (pa : Option Addr) (pn pc : Nat) (qa : Option Addr) (qn qc : Nat) (P Q : LP), wr.cell? ⟨bP, jo * 2, none⟩ = some (.slice pa pn pc) ∧ wr.cell? ⟨bP, jo * 2 + 1, none⟩ = some (.slice qa qn qc) ∧ ∀ wz, RX wb d a0 len0 cap0 z0 bP (.slice ga gn gc) (.slice la ln lc) (.slice ua un uc) (.slice xa2 xn2 xc2) (.slice xa xn xc) (.slice ya yn yc) G1 L1 G1 (L1 ++ [(y1, y2)]) RG RL wz → Rq wz (.slice pa pn pc) (.slice qa qn qc) P Q := by
              rcases (show jo = 0 ∨ jo = 1 ∨ jo = 2 by omega) with rfl | rfl | rfl
              · exact ⟨_, _, _, _, _, _, _, _, cell_of_row wr bP 0 _ _ _ O.out.P, cell_of_row wr bP 1 _ _ _ O.out.P, fun wz o => ⟨o.a1.its, o.a2.its, o.a1.len, o.a2.len⟩⟩
              · exact ⟨_, _, _, _, _, _, _, _, cell_of_row wr bP 2 _ _ _ O.out.P, cell_of_row wr bP 3 _ _ _ O.out.P, fun wz o => ⟨o.b1.its, o.b2.its, o.b1.len, o.b2.len⟩⟩
              · exact ⟨_, _, _, _, _, _, _, _, cell_of_row wr bP 4 _ _ _ O.out.P, cell_of_row wr bP 5 _ _ _ O.out.P, fun wz o => ⟨o.c1.its, o.c2.its, o.c1.len, o.c2.len⟩⟩
            have PQ := Lib.hid pq
            have bjo : (jo : Int) < 3 := by omega
            clear pq
            go_upto_region 9 with fail
            obtain ⟨wB, hwB⟩ : ∃ wB, wB = wr.alloc (.cells #[.slice pa pn pc, .slice qa qn qc] 46) := ⟨_, rfl⟩
            obtain ⟨bX, hbX⟩ : ∃ bX, bX = wr.heap.size := ⟨_, rfl⟩
            have PX := Lib.hid (show wB.heap[bX]? = some (.cells #[.slice pa pn pc, .slice qa qn qc] 46 (0, 0)) by rw [hwB, hbX]; exact heap_alloc_new wr _)
            have O1 := Lib.hid (O.out.below (show Below wr.heap.size wr wB by rw [hwB]; exact new_block _))
            have NX : bX ≠ d := by have := O.out.di.lt; omega
            rw [← hwB, ← hbX]
            clear hwB hbX O cp cq
            go_wp2_with fail
            refine (next_any 18 O1.out.di (by omega) (by omega)).mono ?_
            rintro e wx ⟨⟨y, rfl, y0, y9⟩, hl⟩
            have O9 := Lib.hid (O1.out.left hl)
            replace PX := Lib.hid ((hl.far.block bX (Array.getElem?_eq_some_iff.1 PX.out).1 (by simpa using NX)).trans PX.out)
            clear hl O1
            have yw : IntKind.i64.wrap (y - 1) = y - 1 := IntWalk.i64_in _ (by omega)
            go_upto_region 10 with fail
            obtain ⟨wE, hwE⟩ : ∃ wE, wE = wx.alloc (.cells #[.int .i64 aseq, .int .i64 abel, .int .i64 (y - 1), .int .i64 1073741824, .int .i64 1073741825] 3) := ⟨_, rfl⟩
            obtain ⟨bE, hbE⟩ : ∃ bE, bE = wx.heap.size := ⟨_, rfl⟩
            have PE := Lib.hid (show wE.heap[bE]? = some (.cells #[.int .i64 aseq, .int .i64 abel, .int .i64 (y - 1), .int .i64 1073741824, .int .i64 1073741825] 3 (0, 0)) by rw [hwE, hbE]; exact heap_alloc_new wx _)
            have O4 := Lib.hid (O9.out.below (show Below wx.heap.size wx wE by rw [hwE]; exact new_block _))
            have PX4 := Lib.hid (Spn.hop (show Below wx.heap.size wx wE by rw [hwE]; exact new_block _) PX.out)
            rw [← hwE, ← hbE]
            clear hwE hbE O9 yw PX
            have KE : Hid (∀ wz, Below wE.heap.size wE wz → ∀ j : Nat, j < 5 → ∃ kk : Int, wz.cell? ⟨bE, j, none⟩ = some (.int .i64 kk)) := Lib.hid fun wz hb j hj => by
              have h : wz.cell? ⟨bE, j, none⟩ = wE.cell? ⟨bE, j, none⟩ := World.cell?_of_block (a := ⟨bE, j, none⟩) (hb.block bE (Array.getElem?_eq_some_iff.1 PE.out).1)
              rw [h, cell_of_row wE bE j _ _ _ PE.out]
              rcases (show j = 0 ∨ j = 1 ∨ j = 2 ∨ j = 3 ∨ j = 4 by omega) with rfl | rfl | rfl | rfl | rfl
              all_goals exact ⟨_, rfl⟩
            clear PE
            have RQ := Lib.hid fun wz (hb : Below wE.heap.size wE wz) => (PQ.out _ O4.out).keep hb
            have KX := Lib.hid fun wz (hb : Below wE.heap.size wE wz) => Spn.c2 (Spn.hop hb PX4.out)
            have B0' := Lib.hid (Below.refl wE.heap.size wE)
            go_loopw [90] (fun i wr => ∃ j : Nat, j ≤ 5 ∧ i = .int .i64 j ∧ Hid (Below wE.heap.size wE wr)) (fun i _ => (5 - intOf i).toNat)
            case atStart => exact ⟨0, by omega, rfl, B0'⟩
            case round =>
              clear B0'
              obtain ⟨j, hj, rfl, BC⟩ := hrel
              by_cases hjk : j < 5
              · obtain ⟨kk, ck⟩ := KE.out _ BC.out j hjk
                have bj : (j : Int) < 5 := by omega
                obtain ⟨k0, k1⟩ := KX.out _ BC.out
                go_wp2_with fail
                refine (acc_all (RQ.out _ BC.out) kk).mono ?_
                rintro e w1 ⟨⟨u1, u2, b1, e1, M1, M2, rfl, H1, T1, T2⟩, hb⟩
                obtain ⟨u1a, u1n, u1c, rfl⟩ := T1.form
                replace T1 := Lib.hid T1
                obtain ⟨u2a, u2n, u2c, rfl⟩ := T2.form
                replace T2 := Lib.hid T2
                replace H1 := Lib.hid H1
                replace BC := Lib.hid (Buf.then_ BC.out hb)
                clear hb k0 k1 ck
                go_upto_region 13 with fail
                obtain ⟨v1, hv1⟩ : ∃ wz, wz = w1.alloc (.cells #[.slice u1a u1n u1c, .slice u2a u2n u2c] 46) := ⟨_, rfl⟩
                obtain ⟨s1, hs1⟩ : ∃ bz, bz = w1.heap.size := ⟨_, rfl⟩
                have hb : Below w1.heap.size w1 v1 := by rw [hv1]; exact new_block _
                have S1 := Lib.hid (show v1.heap[s1]? = some (.cells #[.slice u1a u1n u1c, .slice u2a u2n u2c] 46 (0, 0)) by rw [hv1, hs1]; exact heap_alloc_new w1 _)
                replace T1 := Lib.hid (T1.out.keep hb)
                replace T2 := Lib.hid (T2.out.keep hb)
                replace BC := Lib.hid (Buf.then_ BC.out hb)
                rw [← hv1, ← hs1]
                clear hv1 hs1 hb
                obtain ⟨k0, k1⟩ := KX.out _ BC.out
                go_wp2_with fail
                refine (refacc_all (RQ.out _ BC.out) kk).mono ?_
                rintro e w2 ⟨⟨u3, u4, b2, e2, M3, M4, rfl, H2, T3, T4⟩, hb⟩
                obtain ⟨u3a, u3n, u3c, rfl⟩ := T3.form
                replace T3 := Lib.hid T3
                obtain ⟨u4a, u4n, u4c, rfl⟩ := T4.form
                replace T4 := Lib.hid T4
                replace H2 := Lib.hid H2
                replace T1 := Lib.hid (T1.out.keep hb)
                replace T2 := Lib.hid (T2.out.keep hb)
                replace S1 := Lib.hid (Spn.hop hb S1.out)
                replace BC := Lib.hid (Buf.then_ BC.out hb)
                clear hb k0 k1
                go_upto_region 14 with fail
                obtain ⟨v2, hv2⟩ : ∃ wz, wz = w2.alloc (.cells #[.slice u3a u3n u3c, .slice u4a u4n u4c] 46) := ⟨_, rfl⟩
                obtain ⟨s2, hs2⟩ : ∃ bz, bz = w2.heap.size := ⟨_, rfl⟩
                have hb : Below w2.heap.size w2 v2 := by rw [hv2]; exact new_block _
                have S2 := Lib.hid (show v2.heap[s2]? = some (.cells #[.slice u3a u3n u3c, .slice u4a u4n u4c] 46 (0, 0)) by rw [hv2, hs2]; exact heap_alloc_new w2 _)
                replace T1 := Lib.hid (T1.out.keep hb)
                replace T2 := Lib.hid (T2.out.keep hb)
                replace S1 := Lib.hid (Spn.hop hb S1.out)
                replace T3 := Lib.hid (T3.out.keep hb)
                replace T4 := Lib.hid (T4.out.keep hb)
                replace BC := Lib.hid (Buf.then_ BC.out hb)
                rw [← hv2, ← hs2]
                clear hv2 hs2 hb
                obtain ⟨k0, k1⟩ := KX.out _ BC.out
                go_wp2_with fail
                refine (los_all (RQ.out _ BC.out) kk).mono ?_
                rintro e w3 ⟨⟨u5, u6, e3, M5, M6, rfl, H3, T5, T6⟩, hb⟩
                obtain ⟨u5a, u5n, u5c, rfl⟩ := T5.form
                replace T5 := Lib.hid T5
                obtain ⟨u6a, u6n, u6c, rfl⟩ := T6.form
                replace T6 := Lib.hid T6
                replace H3 := Lib.hid H3
                replace T1 := Lib.hid (T1.out.keep hb)
                replace T2 := Lib.hid (T2.out.keep hb)
                replace S1 := Lib.hid (Spn.hop hb S1.out)
                replace T3 := Lib.hid (T3.out.keep hb)
                replace T4 := Lib.hid (T4.out.keep hb)
                replace S2 := Lib.hid (Spn.hop hb S2.out)
                replace BC := Lib.hid (Buf.then_ BC.out hb)
                clear hb k0 k1
                go_upto_region 15 with fail
                obtain ⟨v3, hv3⟩ : ∃ wz, wz = w3.alloc (.cells #[.slice u5a u5n u5c, .slice u6a u6n u6c] 46) := ⟨_, rfl⟩
                obtain ⟨s3, hs3⟩ : ∃ bz, bz = w3.heap.size := ⟨_, rfl⟩
                have hb : Below w3.heap.size w3 v3 := by rw [hv3]; exact new_block _
                have S3 := Lib.hid (show v3.heap[s3]? = some (.cells #[.slice u5a u5n u5c, .slice u6a u6n u6c] 46 (0, 0)) by rw [hv3, hs3]; exact heap_alloc_new w3 _)
                replace T1 := Lib.hid (T1.out.keep hb)
                replace T2 := Lib.hid (T2.out.keep hb)
                replace S1 := Lib.hid (Spn.hop hb S1.out)
                replace T3 := Lib.hid (T3.out.keep hb)
                replace T4 := Lib.hid (T4.out.keep hb)
                replace S2 := Lib.hid (Spn.hop hb S2.out)
                replace T5 := Lib.hid (T5.out.keep hb)
                replace T6 := Lib.hid (T6.out.keep hb)
                replace BC := Lib.hid (Buf.then_ BC.out hb)
                rw [← hv3, ← hs3]
                clear hv3 hs3 hb
                obtain ⟨k0, k1⟩ := KX.out _ BC.out
                go_wp2_with fail
                refine (reflos_all (RQ.out _ BC.out) kk).mono ?_
                rintro e w4 ⟨⟨u7, u8, e4, M7, M8, rfl, H4, T7, T8⟩, hb⟩
                obtain ⟨u7a, u7n, u7c, rfl⟩ := T7.form
                replace T7 := Lib.hid T7
                obtain ⟨u8a, u8n, u8c, rfl⟩ := T8.form
                replace T8 := Lib.hid T8
                replace H4 := Lib.hid H4
                replace T1 := Lib.hid (T1.out.keep hb)
                replace T2 := Lib.hid (T2.out.keep hb)
                replace S1 := Lib.hid (Spn.hop hb S1.out)
                replace T3 := Lib.hid (T3.out.keep hb)
                replace T4 := Lib.hid (T4.out.keep hb)
                replace S2 := Lib.hid (Spn.hop hb S2.out)
                replace T5 := Lib.hid (T5.out.keep hb)
                replace T6 := Lib.hid (T6.out.keep hb)
                replace S3 := Lib.hid (Spn.hop hb S3.out)
                replace BC := Lib.hid (Buf.then_ BC.out hb)
                clear hb k0 k1
                go_upto_region 16 with fail
                obtain ⟨v4, hv4⟩ : ∃ wz, wz = w4.alloc (.cells #[.slice u7a u7n u7c, .slice u8a u8n u8c] 46) := ⟨_, rfl⟩
                obtain ⟨s4, hs4⟩ : ∃ bz, bz = w4.heap.size := ⟨_, rfl⟩
                have hb : Below w4.heap.size w4 v4 := by rw [hv4]; exact new_block _
                have S4 := Lib.hid (show v4.heap[s4]? = some (.cells #[.slice u7a u7n u7c, .slice u8a u8n u8c] 46 (0, 0)) by rw [hv4, hs4]; exact heap_alloc_new w4 _)
                replace T1 := Lib.hid (T1.out.keep hb)
                replace T2 := Lib.hid (T2.out.keep hb)
                replace S1 := Lib.hid (Spn.hop hb S1.out)
                replace T3 := Lib.hid (T3.out.keep hb)
                replace T4 := Lib.hid (T4.out.keep hb)
                replace S2 := Lib.hid (Spn.hop hb S2.out)
                replace T5 := Lib.hid (T5.out.keep hb)
                replace T6 := Lib.hid (T6.out.keep hb)
                replace S3 := Lib.hid (Spn.hop hb S3.out)
                replace T7 := Lib.hid (T7.out.keep hb)
                replace T8 := Lib.hid (T8.out.keep hb)
                replace BC := Lib.hid (Buf.then_ BC.out hb)
                rw [← hv4, ← hs4]
                clear hv4 hs4 hb
                obtain ⟨h1_, h2_, h3_, h4_⟩ := AccR.unique H1.out H2.out
                subst h1_ h2_ h3_ h4_
                obtain ⟨h1_, h2_, h3_⟩ := LosR.unique H3.out H4.out
                subst h1_ h2_ h3_
                clear H1 H2 H3 H4
                have d1 : (b1 != b1) = false := by simp
                have d2 : (e1 != e1) = false := by simp
                have d3 : (e3 != e3) = false := by simp
                obtain ⟨k0, k1⟩ := Spn.c2 S1.out
                obtain ⟨k2, k3⟩ := Spn.c2 S2.out
                go_wp2_with fail
                refine (refsame11_all T1.out T2.out T3.out T4.out).mono ?_
                rintro e w5 ⟨rfl, hb⟩
                clear k0 k1 k2 k3
                obtain ⟨k0, k1⟩ := Spn.c2 (Spn.hop hb S3.out)
                obtain ⟨k2, k3⟩ := Spn.c2 (Spn.hop hb S4.out)
                have SM := Lib.hid (refsame11_all (T5.out.keep hb) (T6.out.keep hb) (T7.out.keep hb) (T8.out.keep hb))
                replace BC := Lib.hid (Buf.then_ BC.out hb)
                clear hb S1 S2 S3 S4 T1 T2 T3 T4 T5 T6 T7 T8
                go_wp2_with fail
                refine SM.out.mono ?_
                rintro e w6 ⟨rfl, hb⟩
                replace BC := Lib.hid (Buf.then_ BC.out hb)
                clear hb k0 k1 k2 k3 SM
                go_wp2_with fail
                go_roundw
                case rel => exact ⟨j + 1, by omega, by go_num, BC⟩
                case measure => simp [intOf]; omega
              · obtain rfl : j = 5 := by omega
                have OX := Lib.hid (O4.out.below BC.out)
                have PX5 := Lib.hid (Spn.hop BC.out PX4.out)
                clear O4 KE BC hjk hj RQ KX PX4
                go_wp2_with fail
                refine (next_any 20 OX.out.di (by omega) (by omega)).mono ?_
                rintro e w5 ⟨⟨y3, rfl, y30, y39⟩, hl⟩
                have O9 := Lib.hid (OX.out.left hl)
                replace PX5 := Lib.hid ((hl.far.block bX (Array.getElem?_eq_some_iff.1 PX5.out).1 (by simpa using NX)).trans PX5.out)
                clear hl OX
                have yw : IntKind.i64.wrap (y3 - 1) = y3 - 1 := IntWalk.i64_in _ (by omega)
                go_upto_region 20 with fail
                obtain ⟨wF, hwF⟩ : ∃ wF, wF = w5.alloc (.cells #[.int .i64 anx, .int .i64 (y3 - 1), .int .i64 1073741825] 3) := ⟨_, rfl⟩
                obtain ⟨bF, hbF⟩ : ∃ bF, bF = w5.heap.size := ⟨_, rfl⟩
                have PF := Lib.hid (show wF.heap[bF]? = some (.cells #[.int .i64 anx, .int .i64 (y3 - 1), .int .i64 1073741825] 3 (0, 0)) by rw [hwF, hbF]; exact heap_alloc_new w5 _)
                have NF : bF ≠ d := by have := O9.out.di.lt; omega
                have O6 := Lib.hid (O9.out.below (show Below w5.heap.size w5 wF by rw [hwF]; exact new_block _))
                have PX6 := Lib.hid (Spn.hop (show Below w5.heap.size w5 wF by rw [hwF]; exact new_block _) PX5.out)
                rw [← hwF, ← hbF]
                clear hwF hbF O9 yw PX5
                go_loopw [152] (fun i wr => ∃ j : Nat, j ≤ 3 ∧ i = .int .i64 j ∧ Hid (RX wb d a0 len0 cap0 z0 bP (.slice ga gn gc) (.slice la ln lc) (.slice ua un uc) (.slice xa2 xn2 xc2) (.slice xa xn xc) (.slice ya yn yc) G1 L1 G1 (L1 ++ [(y1, y2)]) RG RL wr) ∧ Hid (wr.heap[bX]? = some (.cells #[.slice pa pn pc, .slice qa qn qc] 46 (0, 0))) ∧ Hid (wr.heap[bF]? = some (.cells #[.int .i64 anx, .int .i64 (y3 - 1), .int .i64 1073741825] 3 (0, 0)))) (fun i _ => (3 - intOf i).toNat)
                case atStart => exact ⟨0, by omega, rfl, O6, PX6, PF⟩
                case round =>
                  clear O6 PX6 PF
                  obtain ⟨j, hj, rfl, O6, PX6, PF⟩ := hrel
                  by_cases hjk : j < 3
                  · obtain ⟨kk, ck⟩ : ∃ kk : Int, wr.cell? ⟨bF, j, none⟩ = some (.int .i64 kk) := by
                      rw [cell_of_row wr bF j _ _ _ PF.out]
                      rcases (show j = 0 ∨ j = 1 ∨ j = 2 by omega) with rfl | rfl | rfl
                      all_goals exact ⟨_, rfl⟩
                    have bj : (j : Int) < 3 := by omega
                    have BC := Lib.hid (Below.refl wr.heap.size wr)
                    have RQ := Lib.hid fun wz (hb : Below wr.heap.size wr wz) => (PQ.out _ O6.out).keep hb
                    have KX := Lib.hid fun wz (hb : Below wr.heap.size wr wz) => Spn.c2 (Spn.hop hb PX6.out)
                    obtain ⟨k0, k1⟩ := KX.out _ BC.out
                    go_wp2_with fail
                    refine (mis_all (RQ.out _ BC.out) kk).mono ?_
                    rintro e w6 ⟨⟨u1, e1, M1, rfl, H1, T1⟩, hb⟩
                    obtain ⟨u1a, u1n, u1c, rfl⟩ := T1.form
                    replace T1 := Lib.hid T1
                    replace H1 := Lib.hid H1
                    replace BC := Lib.hid (Buf.then_ BC.out hb)
                    clear hb k0 k1 ck
                    obtain ⟨k0, k1⟩ := KX.out _ BC.out
                    go_wp2_with fail
                    refine (refmis_all (RQ.out _ BC.out) kk).mono ?_
                    rintro e w7 ⟨⟨u2, e2, M2, rfl, H2, T2⟩, hb⟩
                    obtain ⟨u2a, u2n, u2c, rfl⟩ := T2.form
                    replace T2 := Lib.hid T2
                    obtain ⟨h1_, h2_⟩ := MisS.unique H1.out H2
                    subst h1_ h2_
                    replace T1 := Lib.hid (T1.out.keep hb)
                    replace BC := Lib.hid (Buf.then_ BC.out hb)
                    clear hb k0 k1 H1 H2
                    have d2 : (e1 != e1) = false := by simp
                    go_wp2_with fail
                    refine (same_yesw T1.out.its T2.out.its (by have := T1.out.len; omega)).mono ?_
                    rintro e w8 ⟨rfl, hb⟩
                    replace BC := Lib.hid (Buf.then_ BC.out hb)
                    clear hb T1 T2 d2
                    have O7 := Lib.hid (O6.out.below BC.out)
                    replace PX6 := Lib.hid (Spn.hop BC.out PX6.out)
                    replace PF := Lib.hid (Spn.hop BC.out PF.out)
                    clear BC RQ KX O6
                    go_wp2_with fail
                    refine (next_any 6 O7.out.di (by omega) (by omega)).mono ?_
                    rintro e w9 ⟨⟨y4, rfl, y40, y49⟩, hl⟩
                    have O9 := Lib.hid (O7.out.left hl)
                    replace PX6 := Lib.hid ((hl.far.block bX (Array.getElem?_eq_some_iff.1 PX6.out).1 (by simpa using NX)).trans PX6.out)
                    replace PF := Lib.hid ((hl.far.block bF (Array.getElem?_eq_some_iff.1 PF.out).1 (by simpa using NF)).trans PF.out)
                    clear hl O7
                    have yw : IntKind.i64.wrap (y4 - 1) = y4 - 1 := IntWalk.i64_in _ (by omega)
                    go_upto_region 27 with fail
                    obtain ⟨wG, hwG⟩ : ∃ wG, wG = w9.alloc (.cells #[.int .i64 amo, .int .i64 (y4 - 1)] 3) := ⟨_, rfl⟩
                    obtain ⟨bG, hbG⟩ : ∃ bG, bG = w9.heap.size := ⟨_, rfl⟩
                    have PG := Lib.hid (show wG.heap[bG]? = some (.cells #[.int .i64 amo, .int .i64 (y4 - 1)] 3 (0, 0)) by rw [hwG, hbG]; exact heap_alloc_new w9 _)
                    have O10 := Lib.hid (O9.out.below (show Below w9.heap.size w9 wG by rw [hwG]; exact new_block _))
                    have PX7 := Lib.hid (Spn.hop (show Below w9.heap.size w9 wG by rw [hwG]; exact new_block _) PX6.out)
                    have PF7 := Lib.hid (Spn.hop (show Below w9.heap.size w9 wG by rw [hwG]; exact new_block _) PF.out)
                    rw [← hwG, ← hbG]
                    clear hwG hbG O9 yw PX6 PF
                    have KG : Hid (∀ wz, Below wG.heap.size wG wz → ∀ i : Nat, i < 2 → ∃ nn : Int, wz.cell? ⟨bG, i, none⟩ = some (.int .i64 nn) ∧ -9223372036854775808 ≤ nn ∧ nn ≤ 9223372036854775807) := Lib.hid fun wz hb i hi => by
                      have h : wz.cell? ⟨bG, i, none⟩ = wG.cell? ⟨bG, i, none⟩ := World.cell?_of_block (a := ⟨bG, i, none⟩) (hb.block bG (Array.getElem?_eq_some_iff.1 PG.out).1)
                      rw [h, cell_of_row wG bG i _ _ _ PG.out]
                      rcases (show i = 0 ∨ i = 1 by omega) with rfl | rfl
                      all_goals exact ⟨_, rfl, by omega, by omega⟩
                    clear PG
                    have RQ := Lib.hid fun wz (hb : Below wG.heap.size wG wz) => (PQ.out _ O10.out).keep hb
                    have KX := Lib.hid fun wz (hb : Below wG.heap.size wG wz) => Spn.c2 (Spn.hop hb PX7.out)
                    have B0' := Lib.hid (Below.refl wG.heap.size wG)
                    go_loopw [183] (fun i wr => ∃ i_ : Nat, i_ ≤ 2 ∧ i = .int .i64 i_ ∧ Hid (Below wG.heap.size wG wr)) (fun i _ => (2 - intOf i).toNat)
                    case atStart => exact ⟨0, by omega, rfl, B0'⟩
                    case round =>
                      clear B0'
                      obtain ⟨i_, hi, rfl, BC⟩ := hrel
                      by_cases hik : i_ < 2
                      · obtain ⟨nn, cn, nn0, nn9⟩ := KG.out _ BC.out i_ hik
                        have bi : (i_ : Int) < 2 := by omega
                        obtain ⟨k0, k1⟩ := KX.out _ BC.out
                        go_wp2_with fail
                        refine (req_all (RQ.out _ BC.out) kk nn ⟨nn0, nn9⟩).mono ?_
                        rintro e w6 ⟨⟨u1, e1, M1, rfl, H1, T1⟩, hb⟩
                        obtain ⟨u1a, u1n, u1c, rfl⟩ := T1.form
                        replace T1 := Lib.hid T1
                        replace H1 := Lib.hid H1
                        replace BC := Lib.hid (Buf.then_ BC.out hb)
                        clear hb k0 k1 cn
                        obtain ⟨k0, k1⟩ := KX.out _ BC.out
                        go_wp2_with fail
                        refine (refreq_all (RQ.out _ BC.out) kk nn ⟨nn0, nn9⟩).mono ?_
                        rintro e w7 ⟨⟨u2, e2, M2, rfl, H2, T2⟩, hb⟩
                        obtain ⟨u2a, u2n, u2c, rfl⟩ := T2.form
                        replace T2 := Lib.hid T2
                        obtain ⟨h1_, h2_⟩ := ReqS.unique H1.out H2
                        subst h1_ h2_
                        replace T1 := Lib.hid (T1.out.keep hb)
                        replace BC := Lib.hid (Buf.then_ BC.out hb)
                        clear hb k0 k1 H1 H2
                        have d2 : (e1 != e1) = false := by simp
                        go_wp2_with fail
                        refine (same_yesw T1.out.its T2.out.its (by have := T1.out.len; omega)).mono ?_
                        rintro e w8 ⟨rfl, hb⟩
                        replace BC := Lib.hid (Buf.then_ BC.out hb)
                        clear hb T1 T2 d2
                        go_wp2_with fail
                        go_roundw
                        case rel => exact ⟨i_ + 1, by omega, by go_num, BC⟩
                        case measure => simp [intOf]; omega
                      · obtain rfl : i_ = 2 := by omega
                        have OZ := Lib.hid (O10.out.below BC.out)
                        have PXZ := Lib.hid (Spn.hop BC.out PX7.out)
                        have PFZ := Lib.hid (Spn.hop BC.out PF7.out)
                        clear O10 PX7 PF7 KG RQ KX hi hik BC
                        go_wp2_with fail
                        go_roundw
                        case rel => exact ⟨j + 1, by omega, by go_num, OZ, PXZ, PFZ⟩
                        case measure => simp [intOf]; omega
                  · obtain rfl : j = 3 := by omega
                    have RQ := Lib.hid fun wz (hb : Below wr.heap.size wr wz) => (PQ.out _ O6.out).keep hb
                    have KX := Lib.hid fun wz (hb : Below wr.heap.size wr wz) => Spn.c2 (Spn.hop hb PX6.out)
                    obtain ⟨ok_, hok⟩ : ∃ b : Bool, b = okB P Q := ⟨_, rfl⟩
                    obtain ⟨hi_, hhi⟩ : ∃ t : Int, t = hiN P Q := ⟨_, rfl⟩
                    obtain ⟨st_, hst⟩ : ∃ t : Int, t = stN P Q := ⟨_, rfl⟩
                    have VA := Lib.hid fun wz (hb : Below wr.heap.size wr wz) => valid_all (RQ.out wz hb)
                    have VB := Lib.hid fun wz (hb : Below wr.heap.size wr wz) => refvalid_all (RQ.out wz hb)
                    have HA := Lib.hid fun wz (hb : Below wr.heap.size wr wz) => high_n (RQ.out wz hb)
                    have HB := Lib.hid fun wz (hb : Below wr.heap.size wr wz) => refhigh_n (RQ.out wz hb)
                    have TA := Lib.hid fun wz (hb : Below wr.heap.size wr wz) => settled_n (RQ.out wz hb)
                    have TB := Lib.hid fun wz (hb : Below wr.heap.size wr wz) => refsettled_n (RQ.out wz hb)
                    rw [← hok] at VA VB
                    rw [← hhi] at HA HB
                    rw [← hst] at TA TB
                    have e1 : (ok_ != ok_) = false := by simp
                    have e2 : (hi_ != hi_) = false := by simp
                    have e3 : (st_ != st_) = false := by simp
                    clear hok hhi hst
                    go_upto_region 35 with fail
                    refine Buf.region_calm wr (by kernel_rfl) (by kernel_rfl) (Below.refl _ _) ?_
                    repeat (go_big_quiet_step ((intro hC; first
                      | (go_at_call 48; with_reducible exact Buf.calm hC (VA.out _ hC))
                      | (go_at_call 49; with_reducible exact Buf.calm hC (VB.out _ hC))
                      | (go_at_call 50; with_reducible exact Buf.calm hC (HA.out _ hC))
                      | (go_at_call 51; with_reducible exact Buf.calm hC (HB.out _ hC))
                      | (go_at_call 52; with_reducible exact Buf.calm hC (TA.out _ hC))
                      | (go_at_call 53; with_reducible exact Buf.calm hC (TB.out _ hC))
                      | rfl
                      | (simp only [(KX.out _ hC).1, (KX.out _ hC).2, Result.andThen_ok]; exact ⟨trivial, rfl⟩))))
                    refine wpQuiet_nil ?_
                    intro w6 hb
                    have OY := Lib.hid (O6.out.below hb)
                    clear VA VB HA HB TA TB RQ KX hb O6 PX6 PF
                    go_wp2_with fail
                    go_roundw
                    case rel => exact ⟨jo + 1, by omega, by go_num, OY⟩
                    case measure => simp [intOf]; omega
          · obtain rfl : jo = 3 := by omega
            have B9 := Lib.hid (Buf.then_ B0.out O.out.di.bel)
            have NW := Lib.hid (fun w => Rcv.new_any w)
            have RW := Lib.hid (fun w => Rcv.refnew_any w)
            clear O
            go_wp2_with (first | (go_at_call 54; refine (NW.out _).mono ?_; rintro e w1 ⟨rfl, h1⟩) | (go_at_call 55; refine (RW.out _).mono ?_; rintro e w2 ⟨rfl, h2⟩) | (go_at_call 43; refine (refsame11_all (Lo.nil _) (Lo.nil _) (Lo.nil _) (Lo.nil _)).mono ?_; rintro e w3 ⟨rfl, h3⟩) | (go_at_call 37; refine (SN.out _).mono ?_; rintro e w4 ⟨rfl, h4⟩))
            go_ret
            exact ⟨rfl, Buf.then_ (Buf.then_ (Buf.then_ (Buf.then_ B9.out h1) h2) h3) h4⟩
    · have hd2 : decide ((40 : Int) < (xn : Int) + (yn : Int)) = true := decide_eq_true (by omega)
      go_wp2_with (first | (go_at_call 11; refine (light_any _ _ _ _).mono ?_; rintro e w1 ⟨rfl, hw⟩; replace hw := hw.symm; subst hw; rw [hd]) | (go_at_call 37; refine (SN.out _).mono ?_; rintro e w2 ⟨rfl, hb⟩))
      go_ret
      exact ⟨rfl, Buf.then_ B0.out hb⟩
  · have hd : decide ((len0 : Int) ≤ 500) = false := by simp; omega
    go_wp2_with (first | (go_at_call 11; refine (light_any _ _ _ _).mono ?_; rintro e w1 ⟨rfl, hw⟩; replace hw := hw.symm; subst hw; rw [hd]) | (go_at_call 37; refine (SN.out _).mono ?_; rintro e w2 ⟨rfl, hb⟩))
    go_ret
    exact ⟨rfl, Buf.then_ B0.out hb⟩
end Laws
end Go.Proofs.Ytfmhfhggogjbkaa
