/- The walk of DetectorScales. -/
import Derived.Test.YtldaocfkmahedaaDoorDetG
import Derived.Test.YtldaocfkmahedaaDoorDetF
import Derived.Test.YtldaocfkmahedaaDoorDetW
import Derived.Test.YtldaocfkmahedaaDoorDetR
import Derived.Test.YtldaocfkmahedaaDoorDetV
import Derived.Lib.MinMax
import Derived.Laws.StructEq
import Derived.Deep.DeepCutAuto
set_option linter.unusedVariables false
set_option linter.unusedSimpArgs false
namespace Go.Proofs.YtldaocfkmahedaaDoor
open Go.RowKit Wi Dice
namespace Laws
open Det
theorem one_of (x : Int) : ∀ u ∈ [Value.int .i64 x], u.oneCell' = true := by simp; rfl
set_option maxHeartbeats 8000000 in
set_option maxRecDepth 100000 in
theorem detectorScales_walk (a0 : Option Addr) (len0 cap0 : Nat) (z0 : List Int) (a1 a2 : Int) (w : World) (hcl : Cl w) (w0 : Buf.IsRow .i64 w a0 len0 cap0 z0) (w1 : (Lit.int .i8 a1).wf = true) (w2 : (Lit.int .u8 a2).wf = true) :
    Calls Tryd.prog 3 #[.slice a0 len0 cap0, .int .i8 a1, .int .u8 a2] w fun e w' => e = .returned (.bool true) ∧ Below w.heap.size w w' := by
  have b0 : -128 ≤ a1 ∧ a1 ≤ 127 := by have := w1; simp [Lit.wf, IntKind.min, IntKind.max, IntKind.bits, IntKind.signed] at this; omega
  obtain ⟨c0, c1⟩ := Ma.wf_u8 w2
  clear w1 w2
  have HC := Lib.hid hcl
  by_cases hs : len0 ≤ 500
  · have hd : decide ((len0 : Int) ≤ 500) = true := by simp; omega
    go_enter Tryd.func3, Tryd.ntmps3
    go_upto_region 4 with (first | (go_at_call 6; refine (light_any _ _ _ _).mono ?_; rintro e w1 ⟨rfl, rfl⟩; rw [hd]) | (go_at_call 8; refine (roll_any a0 len0 cap0 z0 _ w0 hs).mono ?_; rintro e w2 ⟨rfl, hdi⟩))
    have hdl := hdi.lt
    go_wp2_with fail
    refine (detector_any hdi).mono ?_
    rintro e w3 ⟨⟨S, L, ON, OFF, rfl, dg, hL⟩, hl⟩
    replace dg := Lib.hid dg
    have D3 := Lib.hid hl
    clear hl
    go_wp2_with fail
    refine (wave_small 40 (by decide) (by decide) D3.out.di).mono ?_
    rintro e w4 ⟨⟨xv, x, rfl, hox, hin, hx1, hx40⟩, hl⟩
    have WW := Lib.hid hl.di.bel
    have h3 := D3.out.far.size
    obtain ⟨xa, c, rfl, hc, c9, h0⟩ := sv_own hox
    obtain ⟨b, off, rfl, hlt, hcell⟩ := h0 (by omega)
    go_upto_region 5 with fail
    obtain ⟨w5, hw5⟩ : ∃ w5, w5 = w4.alloc (.cells #[.int .i64 S, .int .i64 L, .int .i64 ON, .int .i64 OFF] 29) := ⟨_, rfl⟩
    have hb5 : Below w4.heap.size w4 w5 := by rw [hw5]; exact new_block _
    obtain ⟨p8, hp8⟩ : ∃ p, p = w4.heap.size := ⟨_, rfl⟩
    have KA := Lib.hid (show w5.heap[p8]? = some (.cells #[.int .i64 S, .int .i64 L, .int .i64 ON, .int .i64 OFF] 29 (0, 0)) by rw [hw5, hp8]; exact heap_alloc_new w4 _)
    have SX := Lib.hid ((sv_own hox).below hb5)
    replace WW := Lib.hid (WW.out.trans (hb5.mono (by have := WW.out.size; omega)))
    rw [← hw5, ← hp8]
    have hb' : b < p8 := by rw [hp8]; exact hlt
    clear hw5 hb5 hp8 hl hox h0 hcell hlt D3 hdi h3
    go_upto_if 35 with (fail)
    go_cut [10] (fun v wx => ∃ k : Int, v = .int .i64 k ∧ k ≠ 0 ∧ -128 ≤ k ∧ k ≤ 127 ∧ w5 = wx)
    case first =>
      by_cases hk : a1 = 0
      · subst hk
        go_wp2_with fail
        go_meet
        exact ⟨5, rfl, by omega, by omega, by omega, rfl⟩
      · have hk' : (a1 == 0) = false := by rw [beq_eq_false_iff_ne]; exact hk
        go_wp2_with fail
        go_meet
        exact ⟨a1, rfl, hk, by omega, by omega, rfl⟩
    case rest =>
      obtain ⟨k, rfl, k0, k1, k2, rfl⟩ := hcut
      obtain ⟨i0, hi, hz0, hz1, hz2⟩ := info_parts infoI
      have R0 : Hid (R3 w5.heap.size w5 (.slice none 0 0) (.slice none 0 0) (.slice none 0 0) 0 0 0 [] [] []) := Lib.hid (R3.nil _ _)
      generalize hxl : x.length = N at *
      replace hxl := Lib.hid hxl
      replace hin := Lib.hid hin
      go_wp2_with fail
      go_loopw [11, 12, 38] (fun v u i wr => ∃ (j : Nat) (Y Z : List Int), j ≤ N ∧ i = .int .i64 j ∧ Hid (Y.length = j ∧ ∀ m, m < j → fn Y m = fn x m * k) ∧ Hid (Z.length = j ∧ ∀ m : Nat, m < j → fn Z m = a2 * (1 - 2 * ((m : Int) % 2))) ∧ Hid (R3 w5.heap.size wr v u (.slice none 0 0) j j 0 Y Z []) ∧ Hid (Below w5.heap.size w5 wr)) (fun _ _ i _ => N - (intOf i).toNat)
      case atStart => exact ⟨0, [], [], by omega, rfl, Lib.hid ⟨rfl, fun m h => by omega⟩, Lib.hid ⟨rfl, fun m h => by omega⟩, R0, Lib.hid (Below.refl _ _)⟩
      case round =>
        clear R0
        obtain ⟨j, Y, Z, hj, rfl, hY, hZ, RA, W1⟩ := hrel
        by_cases hlt : j < N
        · obtain ⟨ax, cx, he, _, _, h3⟩ := SX.out
          obtain ⟨b', off', he2, hbl, hcc⟩ := h3 (by omega)
          cases he
          cases he2
          have c1 := (W1.out.cell (p := ⟨b, off + j, none⟩) hbl).trans (hcc j hlt)
          have xb := hin.out j (by rw [hxl.out]; exact hlt)
          have pk := abs_mul (fn x j) k
          have pk2 : max k (-k) * max (fn x j) (-fn x j) ≤ 128 * 100 := Int.mul_le_mul (by omega) (by omega) (by omega) (by omega)
          have px : -12800 ≤ fn x j * k ∧ fn x j * k ≤ 12800 := by omega
          have YN : Hid ((Y ++ [fn x j * k]).length = j + 1 ∧ ∀ m, m < j + 1 → fn (Y ++ [fn x j * k]) m = fn x m * k) := Lib.hid ⟨by simp [hY.out.1], fun m hm => by
            by_cases h : m < j
            · rw [fn_old Y _ m (by rw [hY.out.1]; exact h)]; exact hY.out.2 m h
            · obtain rfl : m = Y.length := by rw [hY.out.1]; omega
              rw [fn_last, hY.out.1]⟩
          have ZN : Hid ((Z ++ [a2 * (1 - 2 * ((j : Int) % 2))]).length = j + 1 ∧ ∀ m : Nat, m < j + 1 → fn (Z ++ [a2 * (1 - 2 * ((j : Int) % 2))]) m = a2 * (1 - 2 * ((m : Int) % 2))) := Lib.hid ⟨by simp [hZ.out.1], fun m hm => by
            by_cases h : m < j
            · rw [fn_old Z _ m (by rw [hZ.out.1]; exact h)]; exact hZ.out.2 m h
            · obtain rfl : m = Z.length := by rw [hZ.out.1]; omega
              rw [fn_last, hZ.out.1]⟩
          have fl := abs_flat a2 ((j : Int) % 2) c0 (by omega)
          have fb : -255 ≤ a2 * (1 - 2 * ((j : Int) % 2)) ∧ a2 * (1 - 2 * ((j : Int) % 2)) ≤ 255 := by omega
          clear pk pk2 fl h3 hcc
          have m1 : Hid (j + 1 ≤ maxLen) := Lib.hid (by unfold maxLen; omega)
          have m2 : Hid ((j + 1) * 8 ≤ 140737488355328) := Lib.hid (by omega)
          go_wp2_with (first
            | (at_builtin; refine wpList_append_lies _ rfl _ _ 22 rfl w5.heap.size 3 i0 (.int .i64 0) 1 8 Tryd.underlying22 hi hz0 hz1 hz2 rfl (by decide) u11 j (ints Y) rfl (row_below RA.out.o1 (new_block _)) ⟨wr.heap.size, 0, none⟩ 1 1 [.int .i64 (fn x j * k)] rfl rfl (World.news_of_block (cs := #[.int .i64 (fn x j * k)]) (heap_alloc_new wr _)) (one_of _) (by decide) m1.out m2.out (by have := W1.out.size; simp; omega) _ rfl ?_; intro g1 c1 w7 hown hgrow hat _; have RB := Lib.hid ((RA.out.below (new_block (.cells #[.int .i64 (fn x j * k)] 3))).one hgrow hat hown); have W2 := Lib.hid ((W1.out.alloc W1.out.size (.cells #[.int .i64 (fn x j * k)] 3)).grown hgrow (by have := W1.out.size; simp; omega) (fun q hq => (RA.out.o1.lt q hq).1)); clear hown hgrow hat)
            | (at_builtin; refine wpList_append_lies _ rfl _ _ 22 rfl w5.heap.size 3 i0 (.int .i64 0) 1 8 Tryd.underlying22 hi hz0 hz1 hz2 rfl (by decide) u12 j (ints Z) rfl (row_below RB.out.o2 (new_block _)) ⟨w7.heap.size, 0, none⟩ 1 1 [.int .i64 (a2 * (1 - 2 * ((j : Int) % 2)))] rfl rfl (World.news_of_block (cs := #[.int .i64 (a2 * (1 - 2 * ((j : Int) % 2)))]) (heap_alloc_new w7 _)) (one_of _) (by decide) m1.out m2.out (by have := W2.out.size; simp; omega) _ rfl ?_; intro g2 c2 w8 hown hgrow hat _; have RC := Lib.hid ((RB.out.below (new_block (.cells #[.int .i64 (a2 * (1 - 2 * ((j : Int) % 2)))] 3))).two hgrow hat hown); have W3 := Lib.hid ((W2.out.alloc W2.out.size (.cells #[.int .i64 (a2 * (1 - 2 * ((j : Int) % 2)))] 3)).grown hgrow (by have := W2.out.size; simp; omega) (fun q hq => (RB.out.o2.lt q hq).1)); clear hown hgrow hat))
          clear RA RB
          go_roundw
          case rel => exact ⟨j + 1, _, _, by omega, by go_num, YN, ZN, RC, W3⟩
          case measure => simp [intOf]; omega
        · obtain rfl : N = j := by omega
          have hYl := hY.out.1
          have hZl := hZ.out.1
          obtain ⟨hYr, SY⟩ := sv_row RA.out.o1
          obtain ⟨hZr, SZ⟩ := sv_row RA.out.o2
          have S1 := Lib.hid SY
          have S2 := Lib.hid SZ
          have S0 := Lib.hid (SX.out.below W1.out)
          have KA' := Lib.hid (hbk W1.out KA.out)
          clear SY SZ RA hYr hZr SX
          have hX0 : Hid (∀ j, j < N → -1073741823 ≤ fn x j ∧ fn x j ≤ 1073741823) := Lib.hid fun j hj => by have := hin.out j (by rw [hxl.out]; exact hj); omega
          have hY0 : Hid (∀ j, j < N → -1073741823 ≤ fn Y j ∧ fn Y j ≤ 1073741823) := Lib.hid fun j hj => by
            have h1 := hin.out j (by rw [hxl.out]; exact hj)
            have h2 := hY.out.2 j hj
            have pk := abs_mul (fn x j) k
            have pk2 : max k (-k) * max (fn x j) (-fn x j) ≤ 128 * 100 := Int.mul_le_mul (by omega) (by omega) (by omega) (by omega)
            omega
          have hZ0 : Hid (∀ j, j < N → -1073741823 ≤ fn Z j ∧ fn Z j ≤ 1073741823) := Lib.hid fun j hj => by
            have h2 := hZ.out.2 j hj
            have fl := abs_flat a2 ((j : Int) % 2) c0 (by omega)
            omega
          have CLr := Lib.hid (hbk (Buf.then_ WW.out W1.out) HC.out)
          obtain ⟨E1, hE1⟩ : ∃ E1, E1 = runL ⟨S, L, ON, OFF⟩ (ab (fn x)) N := ⟨_, rfl⟩
          have hM : Hid (runL ⟨S, L, ON, OFF⟩ (ab (fn Y)) N = E1.map (mul (max k (-k)))) := Lib.hid (by rw [hE1]; exact run_times k0 hY.out.2)
          have hP : Hid (runL ⟨S, L, ON, OFF⟩ (ab (fn Z)) N = runL ⟨S, L, ON, OFF⟩ (fun _ => a2) N) := Lib.hid (run_flat c0 hZ.out.2)
          have PK : Hid (∀ t ∈ E1, 0 ≤ t.pk ∧ t.pk ≤ 100) := Lib.hid (by
            rw [hE1]
            refine runL_pk _ _ 100 N (by omega) fun j hj => ?_
            have h1 := hin.out j (by rw [hxl.out]; exact hj)
            show 0 ≤ max (fn x j) (-fn x j) ∧ max (fn x j) (-fn x j) ≤ 100
            omega)
          have hN1 : E1.length ≤ 41 := by rw [hE1]; have := runL_len ⟨S, L, ON, OFF⟩ (ab (fn x)) N; omega
          replace hE1 := Lib.hid hE1
          have WR := Lib.hid (Buf.then_ WW.out W1.out)
          clear hY hZ W1 WW hin KA
          obtain ⟨q0, q1, q2, q3⟩ := c4 KA'.out
          go_wp2_with fail
          refine (run_any dg.out S0.out (by omega) hX0.out CLr.out).mono ?_
          rintro e w6 ⟨⟨lv, rfl, ho⟩, hb⟩
          rw [← hE1.out] at ho
          have T1 := Lib.hid (ts_of ho)
          replace S1 := Lib.hid (S1.out.below hb)
          replace S2 := Lib.hid (S2.out.below hb)
          replace CLr := Lib.hid (hbk hb CLr.out)
          replace KA' := Lib.hid (hbk hb KA'.out)
          replace WR := Lib.hid (Buf.then_ WR.out hb)
          clear ho hb q0 q1 q2 q3
          obtain ⟨q0, q1, q2, q3⟩ := c4 KA'.out
          go_wp2_with fail
          refine (run_any dg.out S1.out (by omega) hY0.out CLr.out).mono ?_
          rintro e w7 ⟨⟨mv, rfl, ho⟩, hb⟩
          rw [hM.out] at ho
          have T2 := Lib.hid (ts_of ho)
          rw [show (E1.map (mul (max k (-k)))).length = E1.length by simp] at T2
          replace T1 := Lib.hid (T1.out.below hb)
          replace S2 := Lib.hid (S2.out.below hb)
          replace CLr := Lib.hid (hbk hb CLr.out)
          replace KA' := Lib.hid (hbk hb KA'.out)
          replace WR := Lib.hid (Buf.then_ WR.out hb)
          clear ho hb q0 q1 q2 q3
          obtain ⟨q0, q1, q2, q3⟩ := c4 KA'.out
          go_wp2_with fail
          refine (run_any dg.out S2.out (by omega) hZ0.out CLr.out).mono ?_
          rintro e w8 ⟨⟨pv, rfl, ho⟩, hb⟩
          rw [hP.out] at ho
          have T3 := Lib.hid (ts_of ho)
          replace T1 := Lib.hid (T1.out.below hb)
          replace T2 := Lib.hid (T2.out.below hb)
          replace CLr := Lib.hid (hbk hb CLr.out)
          replace KA' := Lib.hid (hbk hb KA'.out)
          replace WR := Lib.hid (Buf.then_ WR.out hb)
          clear ho hb q0 q1 q2 q3 S0 S1 S2 hX0 hY0 hZ0 hM hP hE1 hYl hZl
          generalize hnn : E1.length = n1 at *
          replace hnn := Lib.hid hnn
          obtain ⟨la, lc, rfl, _, l2, l3, l4⟩ := T1.out
          obtain ⟨ma, mc, rfl, _, m2, m3, m4⟩ := T2.out
          replace l4 := Lib.hid l4
          replace m4 := Lib.hid m4
          clear T1 T2
          generalize hp : runL ⟨S, L, ON, OFF⟩ (fun _ => a2) N = E3 at *
          replace hp := Lib.hid hp
          obtain ⟨pa, pc, rfl, hpl, p2, p3, p4⟩ := T3.out
          replace p4 := Lib.hid p4
          clear T3
          generalize hnp : E3.length = n3 at *
          replace hpl := Lib.hid hnp.symm
          clear hnp
          go_wp2_with fail
          go_loopw [97] (fun v wr => ∃ (j : Nat), j ≤ n1 ∧ v = .int .i64 j ∧ Hid (Below w8.heap.size w8 wr)) (fun v _ => n1 - (intOf v).toNat)
          case atStart => exact ⟨0, by omega, rfl, Lib.hid (Below.refl _ _)⟩
          case round =>
            obtain ⟨j, hj, rfl, WJ⟩ := hrel
            by_cases hlt : j < n1
            · obtain ⟨lg, rfl, hlg, hlc⟩ := l4.out (by omega)
              obtain ⟨mg, rfl, hmg, hmc⟩ := m4.out (by omega)
              obtain ⟨t, ht⟩ : ∃ t, E1[j]? = some t := ⟨E1[j]'(by rw [hnn.out]; exact hlt), by simp⟩
              obtain ⟨x0, x1, x2⟩ := hlc j t ht
              obtain ⟨y0, y1, y2⟩ := hmc j (mul (max k (-k)) t) (by rw [List.getElem?_map, ht]; rfl)
              rw [← WJ.out.cell (p := ⟨lg, j * 3, none⟩) hlg] at x0
              rw [← WJ.out.cell (p := ⟨lg, j * 3 + 1, none⟩) hlg] at x1
              rw [← WJ.out.cell (p := ⟨lg, j * 3 + 2, none⟩) hlg] at x2
              rw [← WJ.out.cell (p := ⟨mg, j * 3, none⟩) hmg] at y0
              rw [← WJ.out.cell (p := ⟨mg, j * 3 + 1, none⟩) hmg] at y1
              rw [← WJ.out.cell (p := ⟨mg, j * 3 + 2, none⟩) hmg] at y2
              have pb := PK.out t (List.mem_of_getElem? ht)
              have pz : 0 ≤ t.pk * max k (-k) := Int.mul_nonneg pb.1 (by omega)
              have pz2 : t.pk * max k (-k) ≤ 100 * 128 := Int.mul_le_mul pb.2 (by omega) (by omega) (by omega)
              rw [show (mul (max k (-k)) t).pk = t.pk * max k (-k) from Int.mul_comm _ _] at y2
              rw [show (mul (max k (-k)) t).on = t.on from rfl] at y0
              rw [show (mul (max k (-k)) t).off = t.off from rfl] at y1
              clear hlc hmc
              have jn : ((j : Nat) : Int) < (n1 : Int) := by omega
              go_upto_region 22 with fail
              go_quiet (fail)
              go_wp2_with fail
              go_roundw
              case rel => exact ⟨j + 1, by omega, by go_num, Lib.hid (Buf.below_drewN WJ.out _)⟩
              case measure => simp [intOf]; omega
            · obtain rfl : n1 = j := by omega
              replace CLr := Lib.hid (hbk WJ.out CLr.out)
              replace KA' := Lib.hid (hbk WJ.out KA'.out)
              replace WR := Lib.hid (Buf.then_ WR.out WJ.out)
              obtain ⟨q0, q1, q2, q3⟩ := c4 KA'.out
              have SN := Lib.hid (sane_any CLr.out)
              have DGL := dg.out.s1
              have DGM := dg.out.sl
              simp only at DGL DGM
              clear l4 m4 PK
              have hfo := dg.out.fo
              simp only at hfo
              by_cases hcond : 100 < ON ∨ a2 = 0 ∨ N < L
              · have hE : E3 = [] := by rw [← hp.out]; exact run_none DGL (Nat.le_of_lt DGM) c0 hcond
                have hz : n3 = 0 := by rw [hpl.out, hE]; rfl
                subst hz
                have fin : ∀ b1 b2 b3 : Bool, True := fun _ _ _ => trivial
                by_cases h1 : 100 < ON
                · go_wp2_with (go_at_call 7; with_reducible refine SN.out.mono ?_; rintro e w9 ⟨rfl, hb⟩)
                  go_ret
                  exact ⟨rfl, Buf.then_ WR.out hb⟩
                · by_cases h2 : a2 = 0
                  · subst h2
                    go_wp2_with (go_at_call 7; with_reducible refine SN.out.mono ?_; rintro e w9 ⟨rfl, hb⟩)
                    go_ret
                    exact ⟨rfl, Buf.then_ WR.out hb⟩
                  · have h2' : (a2 == 0) = false := by rw [beq_eq_false_iff_ne]; exact h2
                    have h3 : (N : Int) < (L : Int) := by omega
                    go_wp2_with (go_at_call 7; with_reducible refine SN.out.mono ?_; rintro e w9 ⟨rfl, hb⟩)
                    go_ret
                    exact ⟨rfl, Buf.then_ WR.out hb⟩
              · have h1 : ¬ 100 < ON := fun h => hcond (.inl h)
                have h2 : a2 ≠ 0 := fun h => hcond (.inr (.inl h))
                have h3 : ¬ (N : Int) < (L : Int) := fun h => hcond (.inr (.inr (by omega)))
                have hE : E3 = [⟨(L : Int) - 1, -1, a2⟩] := by rw [← hp.out]; exact run_one DGL (Nat.le_of_lt DGM) (show 0 < a2 by omega) (show ON ≤ 100 by omega) hfo (show L ≤ N by omega)
                have hz : n3 = 1 := by rw [hpl.out, hE]; rfl
                subst hz
                have h2' : (a2 == 0) = false := by rw [beq_eq_false_iff_ne]; exact h2
                obtain ⟨pg, rfl, hpg, hpc⟩ := p4.out (by omega)
                obtain ⟨z0, z1, z2⟩ := hpc 0 ⟨(L : Int) - 1, -1, a2⟩ (by rw [hE]; rfl)
                simp only [Nat.zero_mul, Nat.zero_add] at z0 z1 z2
                have ZC := Lib.hid (fun w' (h : Below wr.heap.size wr w') => show w'.cell? ⟨pg, 0, none⟩ = some (.int .i64 ((L : Int) - 1)) ∧ w'.cell? ⟨pg, 1, none⟩ = some (.int .i64 (-1)) ∧ w'.cell? ⟨pg, 2, none⟩ = some (.int .i64 a2) ∧ w'.cell? ⟨p8, 1, none⟩ = some (.int .i64 (L : Int)) by
                  have hb := Buf.then_ WJ.out h
                  exact ⟨(hb.cell (p := ⟨pg, 0, none⟩) hpg).trans z0, (hb.cell (p := ⟨pg, 1, none⟩) hpg).trans z1, (hb.cell (p := ⟨pg, 2, none⟩) hpg).trans z2, (c4 (hbk h KA'.out)).2.1⟩)
                have SN2 := Lib.hid (fun w' (h : Below wr.heap.size wr w') => sane_any (hbk h CLr.out))
                clear hpc z0 z1 z2
                go_upto_region 27 with fail
                refine Buf.region_calm wr (by kernel_rfl) (by kernel_rfl) (Below.refl _ _) ?_
                repeat (go_big_quiet_step ((intro hC; first
                  | (go_at_call 7; with_reducible exact Buf.calm hC (SN2.out _ hC))
                  | rfl
                  | (simp only [(ZC.out _ hC).1, (ZC.out _ hC).2.1, (ZC.out _ hC).2.2.1, (ZC.out _ hC).2.2.2, Result.andThen_ok]; exact ⟨trivial, rfl⟩))))
                refine wpQuiet_nil ?_
                intro w9 hb9
                go_wp2_with fail
                go_ret
                exact ⟨rfl, Buf.then_ WR.out hb9⟩
  · have hd : decide ((len0 : Int) ≤ 500) = false := by simp; omega
    have SN := Lib.hid (sane_any hcl)
    go_enter Tryd.func3, Tryd.ntmps3
    go_wp2_with (first | (go_at_call 6; refine (light_any _ _ _ _).mono ?_; rintro e w1 ⟨rfl, rfl⟩; rw [hd]) | (go_at_call 7; with_reducible refine SN.out.mono ?_; rintro e w2 ⟨rfl, hc⟩))
    go_ret
    exact ⟨rfl, hc⟩
end Laws
end Go.Proofs.YtldaocfkmahedaaDoor
