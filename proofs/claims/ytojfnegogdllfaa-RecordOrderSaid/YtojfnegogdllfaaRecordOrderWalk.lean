/- The walk of RecordOrder. -/
/- The walk of RecordOrder. -/
import Derived.Test.YtojfnegogdllfaaRecV
set_option linter.unusedVariables false
set_option linter.unusedSimpArgs false
namespace Go.Proofs.Ytojfnegogdllfaa
open Go.RowKit Wi Dice
namespace Laws
open Rec
set_option maxHeartbeats 8000000 in
set_option maxRecDepth 100000 in
theorem recordOrder_walk (a0 : Option Addr) (len0 cap0 : Nat) (z0 : List Int) (w : World) (w0 : Buf.IsRow .i64 w a0 len0 cap0 z0) :
    Calls Try.prog 5 #[.slice a0 len0 cap0] w fun e w' => e = .returned (.bool true) ∧ Below w.heap.size w w' := by
  by_cases hs : len0 ≤ 500
  · have hd : decide ((len0 : Int) ≤ 500) = true := by simp; omega
    go_enter Try.func5, Try.ntmps5
    go_wp2_with (first | (go_at_call 6; refine (light_any _ _ _ _).mono ?_; rintro e w1 ⟨rfl, hw⟩; replace hw := hw.symm; subst hw; rw [hd]) | (go_at_call 8; refine (roll_any a0 len0 cap0 z0 _ w0 hs).mono ?_; rintro e w2 ⟨rfl, hdi⟩))
    refine (Rec.records_any hdi).mono ?_
    rintro e w4 ⟨⟨s0, s1, s2, s3, v, L, rfl, hS, hR, hL⟩, hl⟩
    obtain ⟨ad, mm, mc, rfl, hm⟩ := own_letter hR.own
    have B4 := Lib.hid hl.di.bel
    replace hR := Lib.hid hR
    have mm4 : mm ≤ 4 := by rw [hm.out]; exact hL
    have B0 := Lib.hid (Below.refl w4.heap.size w4)
    clear hl hdi hS hL w0 hd hs
    go_wp2_with fail
    go_loopw [21] (fun i wr => ∃ j : Nat, j ≤ mm ∧ i = .int .i64 j ∧ Hid (Below w4.heap.size w4 wr)) (fun i _ => mm - (intOf i).toNat)
    case atStart => exact ⟨0, Nat.zero_le _, rfl, B0⟩
    case round =>
      clear B0
      obtain ⟨i, hi, rfl, Bi⟩ := hrel
      by_cases hi2 : i < mm
      · obtain ⟨go, rfl, g1, g2⟩ := hR.out.addr (by omega)
        have i1 : (i : Int) < (mm : Int) := by omega
        obtain ⟨ri, hri⟩ : ∃ r, L[i]? = some r := ⟨_, List.getElem?_eq_getElem (by rw [← hm.out]; exact hi2)⟩
        replace hri := Lib.hid hri
        obtain ⟨wo, rfl⟩ : ∃ wo : World, wo = wr := ⟨_, rfl⟩
        go_wp2_with fail
        go_loopw [26] (fun k wr => ∃ j : Nat, j ≤ mm ∧ k = .int .i64 j ∧ Hid (Below w4.heap.size w4 wr)) (fun i _ => mm - (intOf i).toNat)
        case atStart => exact ⟨0, Nat.zero_le _, rfl, Bi⟩
        case round =>
          clear Bi
          obtain ⟨k, hk, rfl, Bk⟩ := hrel
          by_cases hk2 : k < mm
          · have k1 : (k : Int) < (mm : Int) := by omega
            obtain ⟨rk, hrk⟩ : ∃ r, L[k]? = some r := ⟨_, List.getElem?_eq_getElem (by rw [← hm.out]; exact hk2)⟩
            replace hrk := Lib.hid hrk
            obtain ⟨wo2, rfl⟩ : ∃ wo : World, wo = wr := ⟨_, rfl⟩
            go_upto_region 11 with fail
            obtain ⟨Gi, Oi⟩ := rd_at hR.out Bk.out hri.out
            obtain ⟨Gk, Ok⟩ := rd_at hR.out Bk.out hrk.out
            replace Gi := Lib.hid Gi
            replace Oi := Lib.hid Oi
            replace Gk := Lib.hid Gk
            replace Ok := Lib.hid Ok
            obtain ⟨c, hc⟩ : ∃ c, c = ri.cc rk := ⟨_, rfl⟩
            have C1 := Lib.hid fun w' (h' : Below wo2.heap.size wo2 w') => cc_any (Oi.out w' h') (Ok.out w' h')
            rw [← hc] at C1
            replace hc := Lib.hid hc
            refine Buf.region_calm wo2 (by kernel_rfl) (by kernel_rfl) (Below.refl _ _) ?_
            repeat (first
              | (go_big_quiet_want; refine quiet_mid 32 (.tmp 31) rfl go (i * 12) rfl (Rd.row s0 s1 s2 s3 ri) _ (fun _ hC => Gi.out _ hC) rfl rfl rfl ?_; go_big_quiet_on; try simp only [Act.put, List.setIfInBounds_toArray, List.set_cons_zero, List.set_cons_succ])
              | (go_big_quiet_want; refine quiet_mid 32 (.tmp 35) rfl go (k * 12) rfl (Rd.row s0 s1 s2 s3 rk) _ (fun _ hC => Gk.out _ hC) rfl rfl rfl ?_; go_big_quiet_on; try simp only [Act.put, List.setIfInBounds_toArray, List.set_cons_zero, List.set_cons_succ])
              | go_big_quiet_step ((intro hC; first
                 | (go_at_call 22; (with_reducible exact Buf.calm hC (C1.out _ hC)))
                 | rfl)))
            refine wpQuiet_nil ?_
            intro w5 b5
            have B5 := Lib.hid (Buf.then_ Bk.out b5)
            clear b5 Gi Oi Gk Ok C1 Bk
            obtain ⟨Gi, Oi⟩ := rd_at hR.out B5.out hri.out
            obtain ⟨Gk, Ok⟩ := rd_at hR.out B5.out hrk.out
            replace Gi := Lib.hid Gi
            replace Oi := Lib.hid Oi
            replace Gk := Lib.hid Gk
            replace Ok := Lib.hid Ok
            have C2 := Lib.hid fun w' (h' : Below w5.heap.size w5 w') => cc_any (Ok.out w' h') (Oi.out w' h')
            have C3 := Lib.hid fun w' (h' : Below w5.heap.size w5 w') => sm_any (Oi.out w' h') (Ok.out w' h')
            have F := five ri rk (hR.out.ok _ (List.mem_of_getElem? hri.out)).rx.hn (hR.out.ok _ (List.mem_of_getElem? hrk.out)).rx.hn
            rw [← hc.out] at C3 F
            replace F := Lib.hid F
            go_upto_region 12 with fail
            go_cut [63] from 27 to 163 (fun s63 wx => ∃ wy : World, wy = wx ∧ s63 = .bool false ∧ Hid (Below w4.heap.size w4 wy))
            case first =>
              have F3 : (c = 0 ∧ rk.cc ri = 0) ∨ (c = -1 ∧ rk.cc ri = 1) ∨ (c = 1 ∧ rk.cc ri = -1) := by rcases F.out with ⟨e1, e2, _⟩ | ⟨e1, e2, _⟩ | ⟨e1, e2, _⟩ | ⟨e1, e2, _⟩ | ⟨e1, e2, _⟩ <;> simp [e1, e2]
              clear F
              rcases F3 with ⟨rfl, e2⟩ | ⟨rfl, e2⟩ | ⟨rfl, e2⟩
              all_goals
                rw [e2] at C2
                have d1 : decide ((-1 : Int) = 0) = false := by decide
                have d2 : decide ((0 : Int) = 0) = true := by decide
                have d3 : decide ((1 : Int) = 0) = false := by decide
                simp only [d1, d2, d3] at C3
                clear d1 d2 d3
                replace e2 := Lib.hid e2
                refine Buf.region_calm w5 (by kernel_rfl) (by kernel_rfl) (Below.refl _ _) ?_
                repeat (first
                  | (go_big_quiet_want; refine quiet_mid 32 (.tmp 41) rfl go (k * 12) rfl (Rd.row s0 s1 s2 s3 rk) _ (fun _ hC => Gk.out _ hC) rfl rfl rfl ?_; go_big_quiet_on; try simp only [Act.put, List.setIfInBounds_toArray, List.set_cons_zero, List.set_cons_succ])
                  | (go_big_quiet_want; refine quiet_mid 32 (.tmp 45) rfl go (i * 12) rfl (Rd.row s0 s1 s2 s3 ri) _ (fun _ hC => Gi.out _ hC) rfl rfl rfl ?_; go_big_quiet_on; try simp only [Act.put, List.setIfInBounds_toArray, List.set_cons_zero, List.set_cons_succ])
                  | (go_big_quiet_want; refine quiet_mid 32 (.tmp 55) rfl go (i * 12) rfl (Rd.row s0 s1 s2 s3 ri) _ (fun _ hC => Gi.out _ hC) rfl rfl rfl ?_; go_big_quiet_on; try simp only [Act.put, List.setIfInBounds_toArray, List.set_cons_zero, List.set_cons_succ])
                  | (go_big_quiet_want; refine quiet_mid 32 (.tmp 59) rfl go (k * 12) rfl (Rd.row s0 s1 s2 s3 rk) _ (fun _ hC => Gk.out _ hC) rfl rfl rfl ?_; go_big_quiet_on; try simp only [Act.put, List.setIfInBounds_toArray, List.set_cons_zero, List.set_cons_succ])
                  | go_big_quiet_step ((intro hC; first
                     | (go_at_call 22; (with_reducible exact Buf.calm hC (C2.out _ hC)))
                     | (go_at_call 16; (with_reducible exact Buf.calm hC (C3.out _ hC)))
                     | rfl)))
                refine wpQuiet_nil ?_
                intro w6 b6
                go_wp2_with fail
                go_meet
                exact ⟨_, rfl, rfl, Lib.hid (Buf.then_ B5.out b6)⟩
            case rest =>
              obtain ⟨wy, ewy, rfl, B6⟩ := hcut
              subst ewy
              clear Gi Oi Gk Ok C2 C3 B5
              rename_i hKK
              refine hKK _ _ ?_
              clear hKK
              obtain ⟨w6, rfl⟩ : ∃ w6 : World, w6 = wy := ⟨_, rfl⟩
              obtain ⟨Gi, Oi⟩ := rd_at hR.out B6.out hri.out
              obtain ⟨Gk, Ok⟩ := rd_at hR.out B6.out hrk.out
              replace Gi := Lib.hid Gi
              replace Oi := Lib.hid Oi
              replace Gk := Lib.hid Gk
              replace Ok := Lib.hid Ok
              obtain ⟨x, hx⟩ : ∃ x, x = ri.bb rk := ⟨_, rfl⟩
              obtain ⟨y, hy⟩ : ∃ y, y = rk.bb ri := ⟨_, rfl⟩
              have C2 := fun w' (h' : Below w6.heap.size w6 w') => bb_any (Ok.out w' h') (Oi.out w' h')
              have C3 := fun w' (h' : Below w6.heap.size w6 w') => bb_any (Oi.out w' h') (Ok.out w' h')
              have F5 : (c = 0 ∧ x = false ∧ y = false) ∨ (c = -1 ∧ x = true ∧ y = false) ∨ (c = -1 ∧ x = false ∧ y = true) ∨ (c = 1 ∧ x = true ∧ y = false) ∨ (c = 1 ∧ x = false ∧ y = true) := by rw [hx, hy]; rcases F.out with ⟨e1, _, e3, e4⟩ | ⟨e1, _, e3, e4⟩ | ⟨e1, _, e3, e4⟩ | ⟨e1, _, e3, e4⟩ | ⟨e1, _, e3, e4⟩ <;> simp [e1, e3, e4]
              rw [← hy] at C2
              rw [← hx] at C3
              replace C2 := Lib.hid C2
              replace C3 := Lib.hid C3
              replace hx := Lib.hid hx
              replace hy := Lib.hid hy
              replace F5 := Lib.hid F5
              clear F
              go_upto_region 14 with fail
              refine Buf.region_calm w6 (by kernel_rfl) (by kernel_rfl) (Below.refl _ _) ?_
              repeat (first
                | (go_big_quiet_want; refine quiet_mid 32 (.tmp 66) rfl go (i * 12) rfl (Rd.row s0 s1 s2 s3 ri) _ (fun _ hC => Gi.out _ hC) rfl rfl rfl ?_; go_big_quiet_on; try simp only [Act.put, List.setIfInBounds_toArray, List.set_cons_zero, List.set_cons_succ])
                | (go_big_quiet_want; refine quiet_mid 32 (.tmp 70) rfl go (k * 12) rfl (Rd.row s0 s1 s2 s3 rk) _ (fun _ hC => Gk.out _ hC) rfl rfl rfl ?_; go_big_quiet_on; try simp only [Act.put, List.setIfInBounds_toArray, List.set_cons_zero, List.set_cons_succ])
                | (go_big_quiet_want; refine quiet_mid 32 (.tmp 75) rfl go (k * 12) rfl (Rd.row s0 s1 s2 s3 rk) _ (fun _ hC => Gk.out _ hC) rfl rfl rfl ?_; go_big_quiet_on; try simp only [Act.put, List.setIfInBounds_toArray, List.set_cons_zero, List.set_cons_succ])
                | (go_big_quiet_want; refine quiet_mid 32 (.tmp 79) rfl go (i * 12) rfl (Rd.row s0 s1 s2 s3 ri) _ (fun _ hC => Gi.out _ hC) rfl rfl rfl ?_; go_big_quiet_on; try simp only [Act.put, List.setIfInBounds_toArray, List.set_cons_zero, List.set_cons_succ])
                | go_big_quiet_step ((intro hC; first
                   | (go_at_call 23; (with_reducible exact Buf.calm hC (C3.out _ hC)))
                   | (go_at_call 23; (with_reducible exact Buf.calm hC (C2.out _ hC)))
                   | rfl)))
              refine wpQuiet_nil ?_
              intro w7 b7
              have B7 := Lib.hid (Buf.then_ B6.out b7)
              clear b7 Gi Oi Gk Ok C2 C3 B6
              go_upto_region 15 with fail
              go_cut [104] from 27 to 163 (fun s104 wx => s104 = .bool false ∧ Hid (Below w4.heap.size w4 wx))
              case first =>
                rcases F5.out with ⟨e1, e2, e3⟩ | ⟨e1, e2, e3⟩ | ⟨e1, e2, e3⟩ | ⟨e1, e2, e3⟩ | ⟨e1, e2, e3⟩
                all_goals
                  subst e1 e2 e3
                  go_wp2_with fail
                  go_meet
                  exact ⟨rfl, B7⟩
              case rest =>
                obtain ⟨rfl, B8⟩ := hcut
                clear B7
                rename_i hKK
                refine hKK _ _ ?_
                clear hKK
                obtain ⟨w8, rfl⟩ : ∃ w8 : World, w8 = wc := ⟨_, rfl⟩
                go_wp2_with fail
                go_loopw [107] (fun i wr => ∃ j : Nat, j ≤ mm ∧ i = .int .i64 j ∧ Hid (Below w4.heap.size w4 wr)) (fun i _ => mm - (intOf i).toNat)
                case atStart => exact ⟨0, Nat.zero_le _, rfl, B8⟩
                case round =>
                  clear B8
                  obtain ⟨j, hj, rfl, Bj⟩ := hrel
                  by_cases hj2 : j < mm
                  · have j1 : (j : Int) < (mm : Int) := by omega
                    obtain ⟨rj, hrj⟩ : ∃ r, L[j]? = some r := ⟨_, List.getElem?_eq_getElem (by rw [← hm.out]; exact hj2)⟩
                    replace hrj := Lib.hid hrj
                    obtain ⟨w9, rfl⟩ : ∃ w9 : World, w9 = wr := ⟨_, rfl⟩
                    obtain ⟨Gi, Oi⟩ := rd_at hR.out Bj.out hri.out
                    obtain ⟨Gk, Ok⟩ := rd_at hR.out Bj.out hrk.out
                    obtain ⟨Gj, Oj⟩ := rd_at hR.out Bj.out hrj.out
                    obtain ⟨c1, hc1⟩ : ∃ c, c = rk.cc rj := ⟨_, rfl⟩
                    obtain ⟨c2, hc2⟩ : ∃ c, c = ri.cc rj := ⟨_, rfl⟩
                    obtain ⟨x1, hx1⟩ : ∃ c, c = rk.bb rj := ⟨_, rfl⟩
                    obtain ⟨x2, hx2⟩ : ∃ c, c = ri.bb rj := ⟨_, rfl⟩
                    have C1 := fun w' (h' : Below w9.heap.size w9 w') => cc_any (Ok w' h') (Oj w' h')
                    have C2 := fun w' (h' : Below w9.heap.size w9 w') => cc_any (Oi w' h') (Oj w' h')
                    have C3 := fun w' (h' : Below w9.heap.size w9 w') => bb_any (Ok w' h') (Oj w' h')
                    have C4 := fun w' (h' : Below w9.heap.size w9 w') => bb_any (Oi w' h') (Oj w' h')
                    have T1 : c < 0 → c1 < 0 → c2 < 0 := by rw [hc.out, hc1, hc2]; exact cc_trans
                    have T2 : x = true → x1 = true → x2 = true := by rw [hx.out, hx1, hx2]; exact bb_trans
                    rw [← hc1] at C1
                    rw [← hc2] at C2
                    rw [← hx1] at C3
                    rw [← hx2] at C4
                    replace C1 := Lib.hid C1
                    replace C2 := Lib.hid C2
                    replace C3 := Lib.hid C3
                    replace C4 := Lib.hid C4
                    replace Gi := Lib.hid Gi
                    replace Gk := Lib.hid Gk
                    replace Gj := Lib.hid Gj
                    clear Oi Ok Oj hc1 hc2 hx1 hx2
                    go_upto_region 20 with fail
                    have P : (decide (c < 0) = false ∨ decide (c < 0) = true ∧ decide (c1 < 0) = false ∨ decide (c < 0) = true ∧ decide (c1 < 0) = true ∧ decide (c2 ≥ 0) = false) := by
                      simp only [decide_eq_true_eq, decide_eq_false_iff_not]; omega
                    have P2 : (x = false ∨ x = true ∧ x1 = false ∨ x = true ∧ x1 = true ∧ x2 = true) := by
                      cases x <;> cases x1 <;> simp at T2 ⊢; exact T2
                    clear T1 T2
                    refine region20 mm4 hi2 hk2 hj2 Gi Gk Gj C1 C2 C3 C4 P P2 ?_
                    intro v110 v111 v112 v113 v114 v115 v116 v117 v118 v119 v120 v121 v122 v123 v124 v125 v126 v127 v128 v129 v130 v131 v132 v133 v134 v135 v136 v137 v138 v139 v140 v141 v142 v143 v144 v145 v146 v147 v148 v149 v150 v151 v152 v153 v154 v155 v156 v157 v158 v159 v160 w10 b10
                    have B10 := Lib.hid (Buf.then_ Bj.out b10)
                    go_wp2_with fail
                    go_roundw
                    case rel => exact ⟨j + 1, by omega, by go_num, B10⟩
                    case measure => simp [intOf]; omega
                  · obtain rfl : j = mm := by omega
                    go_wp2_with fail
                    go_roundw
                    case rel => exact ⟨k + 1, by omega, by go_num, Bj⟩
                    case measure => simp [intOf]; omega
          · obtain rfl : k = mm := by omega
            go_wp2_with fail
            go_roundw
            case rel => exact ⟨i + 1, by omega, by go_num, Bk⟩
            case measure => simp [intOf]; omega
      · obtain rfl : i = mm := by omega
        go_wp2_with (go_at_call 7; refine (Rec.sane_any _).mono ?_; rintro e w9 ⟨rfl, hc⟩)
        go_ret
        exact ⟨rfl, Buf.then_ (Buf.then_ B4.out Bi.out) hc⟩
  · have hd : decide ((len0 : Int) ≤ 500) = false := by simp; omega
    go_enter Try.func5, Try.ntmps5
    go_wp2_with (first | (go_at_call 6; refine (light_any _ _ _ _).mono ?_; rintro e w1 ⟨rfl, rfl⟩; rw [hd]) | (go_at_call 7; refine (Rec.sane_any _).mono ?_; rintro e w1 ⟨rfl, hb⟩))
    go_ret
    exact ⟨rfl, hb⟩
end Laws
end Go.Proofs.Ytojfnegogdllfaa
