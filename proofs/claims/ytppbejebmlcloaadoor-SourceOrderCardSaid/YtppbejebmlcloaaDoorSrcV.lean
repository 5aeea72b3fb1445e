/- slices.Compact of identifiers; source.Sort. -/
import Derived.Test.YtppbejebmlcloaaDoorSrcU
set_option linter.unusedVariables false
set_option linter.unusedSimpArgs false
namespace Go.Proofs.YtppbejebmlcloaaDoor
open Go.RowKit Dice
namespace Sc
theorem zeroQ_cells (n : Nat) : ∀ v ∈ (Builtin.zeroCells (Value.agg #[.string ⟨#[]⟩, .string ⟨#[]⟩, .string ⟨#[]⟩, .string ⟨#[]⟩]).cells n).toList, v.oneCell' = true := by
  intro v hv
  simp only [Builtin.zeroCells, Value.cells, Array.toList_map, List.mem_map] at hv
  obtain ⟨i, hi, rfl⟩ := hv
  have h4 : i % 4 < 4 := Nat.mod_lt _ (by decide)
  show (#[Value.string ⟨#[]⟩, .string ⟨#[]⟩, .string ⟨#[]⟩, .string ⟨#[]⟩][i % 4]!).oneCell' = true
  obtain h | h | h | h : i % 4 = 0 ∨ i % 4 = 1 ∨ i % 4 = 2 ∨ i % 4 = 3 := by omega
  all_goals rw [h]; rfl
set_option maxRecDepth 100000 in
set_option maxHeartbeats 8000000 in
theorem compact_any {w : World} {B g c n : Nat} {L : List Q4} (hn : n = L.length) (h2 : 2 ≤ n) (h9 : n ≤ 100) (hBg : B ≤ g) (O : w.ownsRow B 28 4 (.slice (some ⟨g, 0, none⟩) n c) n (cQ L)) (hc : n ≤ c) (hcm : c ≤ maxLen) :
    Calls Tryd.prog 25 #[.slice (some ⟨g, 0, none⟩) n c] w fun e w' => (∃ k, e = .returned (.slice (some ⟨g, 0, none⟩) k c) ∧ k = (cmpct (L.take L.length)).length ∧ k ≤ n ∧ ∀ (i : Nat) (q : Q4), (cmpct (L.take L.length))[i]? = some q → w'.cell? ⟨g, i * 4, none⟩ = some (.string ⟨⟨q.1⟩⟩) ∧ w'.cell? ⟨g, i * 4 + 1, none⟩ = some (.string ⟨⟨q.2.1⟩⟩) ∧ w'.cell? ⟨g, i * 4 + 2, none⟩ = some (.string ⟨⟨q.2.2.1⟩⟩) ∧ w'.cell? ⟨g, i * 4 + 3, none⟩ = some (.string ⟨⟨q.2.2.2⟩⟩)) ∧ w.grownBy w' (some g) := by
  have HO := Lib.hid O
  have AT := Lib.hid fun (k : Nat) (p : Q4) (hk : k < n) (hp : L[k]? = some p) => by
    obtain ⟨a, b, d, e⟩ := cQ_get L k p hp
    exact own_at O k hk p a b d e
  have S1 : Hid (cmpct (L.take 1) = L.take 1) := Lib.hid (by
    obtain ⟨x, hx⟩ : ∃ x, L[0]? = some x := ⟨L[0]'(by omega), List.getElem?_eq_getElem _⟩
    rw [take_snocQ L 0 x hx]; simp [cmpct, pushN])
  have hn' := Lib.hid hn
  have h2' : ¬ ((n : Int) < 2) := by omega
  unfold maxLen at hcm
  clear O
  rw [← hn]
  clear hn
  go_enter Tryd.func25, Tryd.ntmps25
  go_wp2_with fail
  go_loopw [3] (fun i wr => ∃ (k m : Nat), i = .int .i64 (k : Int) ∧ 1 ≤ k ∧ k ≤ n ∧ Hid (cmpct (L.take k) = L.take k) ∧ wr = w.drewN m) (fun i _ => n - (intOf i).toNat)
  case atStart => exact ⟨1, 0, rfl, by omega, by omega, S1, rfl⟩
  case round =>
    clear S1
    obtain ⟨k, m, rfl, hk1, hkn, HC, rfl⟩ := hrel
    by_cases hlt : k < n
    · obtain ⟨j, hj⟩ : ∃ j, k = j + 1 := ⟨k - 1, by omega⟩
      have hltI : (k : Int) < n := by omega
      obtain ⟨⟨a, b, d, e⟩, hp⟩ : ∃ p, L[k]? = some p := ⟨L[k]'(by rw [← hn'.out]; omega), List.getElem?_eq_getElem _⟩
      obtain ⟨⟨a', b', d', e'⟩, hq⟩ : ∃ p, L[j]? = some p := ⟨L[j]'(by rw [← hn'.out]; omega), List.getElem?_eq_getElem _⟩
      obtain ⟨x0, x1, x2, x3⟩ := AT.out k _ hlt hp
      obtain ⟨y0, y1, y2, y3⟩ := AT.out j _ (by omega) hq
      dsimp only at x0 x1 x2 x3 y0 y1 y2 y3
      have EQ := eqQ a b d e a' b' d' e'
      have hjw : IntKind.i64.wrap ((k : Int) - 1) = (j : Int) := by rw [show (k : Int) - 1 = j by omega]; exact IntWalk.i64_in _ (by omega)
      have hjn : (j : Int) < n := by omega
      have hj0 : j < n := by omega
      have EPREV := Lib.hid (show (L.take k).getLast? = some (a', b', d', e') by rw [hj, take_snocQ L j _ hq, List.getLast?_append]; rfl)
      have EP1 := Lib.hid (show L[k - 1]? = some (a', b', d', e') by rw [hj]; exact hq)
      replace hj := Lib.hid hj
      by_cases he : (a, b, d, e) = (a', b', d', e')
      · have hde : decide ((a, b, d, e) = (a', b', d', e')) = true := decide_eq_true he
        rw [hde] at EQ
        clear hde
        have EC : Hid (cmpct (L.take (k + 1)) = L.take k) := Lib.hid (by
          rw [cmpct_take L k _ hp, HC.out]
          unfold pushN
          rw [if_pos]
          rw [EPREV.out, he])
        have hcj : ¬ (c = k) := by omega
        replace hp := Lib.hid hp
        replace hq := Lib.hid hq
        have lj : (L.take k).length = k := by rw [List.length_take]; have := hn'.out; omega
        have O0 : Hid ((w.drewN m).ownsRow B 28 4 (.slice (some ⟨g, 0, none⟩) n c) n (mixQ (L.take k) L)) := Lib.hid (by rw [mixQ_self]; exact HO.out)
        go_wp2_with fail
        go_quiet (fail)
        go_upto_region 8 with fail
        go_wp2_with fail
        go_loopw [5, 3] (fun i kk wr => ∃ (t : Nat) (C : List Q4), i = .int .i64 ((t : Int) + 1) ∧ kk = .int .i64 (C.length : Int) ∧ t + 1 ≤ n - k ∧ C.length ≤ k + t ∧ Hid (C = cmpct (L.take (k + (t + 1)))) ∧ Hid (wr.ownsRow B 28 4 (.slice (some ⟨g, 0, none⟩) n c) n (mixQ C L)) ∧ Hid (w.grownBy wr (some g))) (fun i _ _ => n + 1 - (intOf i).toNat)
        case atStart =>
          exact ⟨0, L.take k, rfl, by rw [lj], by omega, by omega, Lib.hid EC.out.symm, O0, Lib.hid ⟨rfl, rfl, rfl, Nat.le_refl _, fun _ _ _ => rfl⟩⟩
        case round =>
          clear O0 EC EQ EPREV EP1 hj x0 x1 x2 x3 y0 y1 y2 y3 lj hjw hjn hj0 hltI HC
          obtain ⟨t, C, rfl, rfl, ht, hCl, HC, OR, GR⟩ := hrel
          by_cases hlt2 : t + 1 < n - k
          · obtain ⟨⟨a1, b1, d1, e1⟩, hp1⟩ : ∃ p, L[k + (t + 1)]? = some p := ⟨L[k + (t + 1)]'(by rw [← hn'.out]; omega), List.getElem?_eq_getElem _⟩
            obtain ⟨⟨a2, b2, d2, e2⟩, hp2⟩ : ∃ p, L[k + t]? = some p := ⟨L[k + t]'(by rw [← hn'.out]; omega), List.getElem?_eq_getElem _⟩
            obtain ⟨x0, x1, x2, x3⟩ := (by obtain ⟨q0, q1, q2, q3⟩ := mixQ_get C L (k + (t + 1)) (by omega) _ hp1; exact own_at OR.out _ (by omega) _ q0 q1 q2 q3)
            obtain ⟨y0, y1, y2, y3⟩ := (by obtain ⟨q0, q1, q2, q3⟩ := mixQ_get C L (k + t) (by omega) _ hp2; exact own_at OR.out _ (by omega) _ q0 q1 q2 q3)
            dsimp only at x0 x1 x2 x3 y0 y1 y2 y3
            have ad1 : (k + (t + 1)) * 4 = k * 4 + (t + 1) * 4 := by omega
            have ad2 : (k + t) * 4 = k * 4 + t * 4 := by omega
            rw [ad1] at x0 x1 x2 x3
            rw [ad2] at y0 y1 y2 y3
            clear ad1 ad2
            have EN := neQ a1 b1 d1 e1 a2 b2 d2 e2
            have htw : IntKind.i64.wrap ((t : Int) + 1 - 1) = (t : Int) := by rw [show (t : Int) + 1 - 1 = t by omega]; exact IntWalk.i64_in _ (by omega)
            have htn : ((t : Int) + 1) < ((n - k : Nat) : Int) := by omega
            have htn0 : (t : Int) < ((n - k : Nat) : Int) := by omega
            have hCn : (C.length : Int) < n := by omega
            have ECT := Lib.hid (cmpct_take L (k + (t + 1)) _ hp1)
            have ELT := Lib.hid (cmpct_last L (k + t) _ hp2)
            rw [show k + t + 1 = k + (t + 1) by omega, ← HC.out] at ELT
            rw [← HC.out] at ECT
            by_cases he2 : (a1, b1, d1, e1) = (a2, b2, d2, e2)
            · have hde : decide ((a1, b1, d1, e1) = (a2, b2, d2, e2)) = true := decide_eq_true he2
              rw [hde] at EN
              have HC2 : Hid (C = cmpct (L.take (k + (t + 1 + 1)))) := Lib.hid (by
                rw [show k + (t + 1 + 1) = k + (t + 1) + 1 by omega, ECT.out]
                unfold pushN
                rw [if_pos (by rw [ELT.out, he2])])
              clear hde he2 ECT ELT hp1 hp2
              go_wp2_with fail
              go_quiet (fail)
              go_wp2
              go_roundw
              case rel => exact ⟨t + 1, C, by go_num, rfl, by omega, by omega, HC2, OR, Lib.hid ⟨GR.out.os, GR.out.tape, GR.out.output, GR.out.size, GR.out.block⟩⟩
              case measure => simp [intOf]; omega
            · have hde : decide ((a1, b1, d1, e1) = (a2, b2, d2, e2)) = false := decide_eq_false he2
              rw [hde] at EN
              have HC2 : Hid (C ++ [(a1, b1, d1, e1)] = cmpct (L.take (k + (t + 1 + 1)))) := Lib.hid (by
                rw [show k + (t + 1 + 1) = k + (t + 1) + 1 by omega, ECT.out]
                unfold pushN
                rw [if_neg (by rw [ELT.out]; intro h; injection h with h; exact he2 h.symm)])
              clear hde he2 ECT ELT hp1 hp2
              have hlk : C.length < L.length := by have := hn'.out; omega
              have HM := Lib.hid (mixQ_set C L (a1, b1, d1, e1) hlk)
              have f0 := OR.out.frozenAt (C.length * 4)
              have f1 := OR.out.frozenAt (C.length * 4 + 1)
              have f2 := OR.out.frozenAt (C.length * 4 + 2)
              have f3 := OR.out.frozenAt (C.length * 4 + 3)
              have hlm : (mixQ C L).length = n * 4 := by rw [mixQ_len C L (by omega), ← hn'.out]
              obtain ⟨z0, hz0⟩ : ∃ z, wr.cell? ⟨g, C.length * 4, none⟩ = some z := ⟨_, (OR.out.cellAt _ (by omega)).trans (List.getElem?_eq_getElem (by omega))⟩
              obtain ⟨z1, hz1⟩ : ∃ z, wr.cell? ⟨g, C.length * 4 + 1, none⟩ = some z := ⟨_, (OR.out.cellAt _ (by omega)).trans (List.getElem?_eq_getElem (by omega))⟩
              obtain ⟨z2, hz2⟩ : ∃ z, wr.cell? ⟨g, C.length * 4 + 2, none⟩ = some z := ⟨_, (OR.out.cellAt _ (by omega)).trans (List.getElem?_eq_getElem (by omega))⟩
              obtain ⟨z3, hz3⟩ : ∃ z, wr.cell? ⟨g, C.length * 4 + 3, none⟩ = some z := ⟨_, (OR.out.cellAt _ (by omega)).trans (List.getElem?_eq_getElem (by omega))⟩
              replace hlm := Lib.hid hlm
              go_wp2_with fail
              go_quiet (fail)
              have GQ : Hid (w.grownBy (wr.drewN nq) (some g)) := Lib.hid ⟨GR.out.os, GR.out.tape, GR.out.output, GR.out.size, GR.out.block⟩
              have OQ : Hid ((wr.drewN nq).ownsRow B 28 4 (.slice (some ⟨g, 0, none⟩) n c) n (mixQ C L)) := OR
              have T0 := Lib.hid (OQ.out.stored (C.length * 4) (.string ⟨⟨a1⟩⟩))
              have T1 := Lib.hid (T0.out.1.stored (C.length * 4 + 1) (.string ⟨⟨b1⟩⟩))
              have T2 := Lib.hid (T1.out.1.stored (C.length * 4 + 2) (.string ⟨⟨d1⟩⟩))
              have T3 := Lib.hid (T2.out.1.stored (C.length * 4 + 3) (.string ⟨⟨e1⟩⟩))
              have OF := Lib.hid T3.out.1
              rw [HM.out] at OF
              have GF := Lib.hid (GQ.out.trans (T0.out.2.trans (T1.out.2.trans (T2.out.2.trans T3.out.2))))
              clear T0 T1 T2 T3 HM OQ GQ
              go_wp2
              go_roundw
              case rel => exact ⟨t + 1, C ++ [(a1, b1, d1, e1)], by go_num, by simp, by omega, by simp; omega, HC2, OF, GF⟩
              case measure => simp [intOf]; omega
          · obtain rfl : t = n - k - 1 := by omega
            have hJ : k + (n - k - 1 + 1) = n := by omega
            rw [hJ] at HC
            have hCn : C.length < n := by omega
            obtain ⟨_, hsh⟩ := OR.out
            rcases hsh with ⟨h3, _⟩ | ⟨g', cap, cur, h3, h4, h5, h6, h7, h8, h10⟩
            · cases h3
            obtain ⟨rfl, rfl⟩ : g = g' ∧ c = cap := by cases h3; exact ⟨rfl, rfl⟩
            clear h3
            have hz : (zeroValue 28).run Tryd.prog wr = .ok (.agg #[.string ⟨#[]⟩, .string ⟨#[]⟩, .string ⟨#[]⟩, .string ⟨#[]⟩]) wr := Tryd.zeroValue28 wr
            have hzs : (Builtin.zeroCells (Value.agg #[.string ⟨#[]⟩, .string ⟨#[]⟩, .string ⟨#[]⟩, .string ⟨#[]⟩]).cells (n - C.length)).size = (n - C.length) * 4 := size_zeroCells _ _
            have CLR := fun ty => run_clear_row (P := Tryd.prog) wr 38 ty 28 _ g (C.length * 4) (n - C.length) (c - C.length) cur _ Tryd.underlying38 hz (by omega) h5 (by rw [hzs, h8]; omega) (by
              intro v hv
              exact zeroQ_cells _ v hv)
            obtain ⟨wF, hwF⟩ : ∃ wF, wF = wr.setRow g (cur.toList.take (C.length * 4) ++ (Builtin.zeroCells (Value.agg #[.string ⟨#[]⟩, .string ⟨#[]⟩, .string ⟨#[]⟩, .string ⟨#[]⟩]).cells (n - C.length)).toList ++ cur.toList.drop (C.length * 4 + (Builtin.zeroCells (Value.agg #[.string ⟨#[]⟩, .string ⟨#[]⟩, .string ⟨#[]⟩, .string ⟨#[]⟩]).cells (n - C.length)).size)).toArray := ⟨_, rfl⟩
            rw [← hwF] at CLR
            have KF := Lib.hid (setRow_heap wr g cur (cur.toList.take (C.length * 4) ++ (Builtin.zeroCells (Value.agg #[.string ⟨#[]⟩, .string ⟨#[]⟩, .string ⟨#[]⟩, .string ⟨#[]⟩]).cells (n - C.length)).toList ++ cur.toList.drop (C.length * 4 + (Builtin.zeroCells (Value.agg #[.string ⟨#[]⟩, .string ⟨#[]⟩, .string ⟨#[]⟩, .string ⟨#[]⟩]).cells (n - C.length)).size)).toArray _ _ h5)
            rw [← hwF] at KF
            have GF : Hid (w.grownBy wF (some g)) := Lib.hid (GR.out.trans (by rw [hwF]; exact ⟨rfl, rfl, rfl, by simp [World.setRow], fun k hk hne => setRow_other wr g k _ (fun e => hne (by rw [e]))⟩))
            have hcC : ¬ (c = C.length) := by omega
            have hCi : (C.length : Int) < n := by omega
            have hCle : (C.length : Int) ≤ n := by omega
            have hCc : C.length ≤ c := by omega
            have cells : Hid (∀ (i : Nat) (q : Q4), C[i]? = some q → wF.cell? ⟨g, i * 4, none⟩ = some (.string ⟨⟨q.1⟩⟩) ∧ wF.cell? ⟨g, i * 4 + 1, none⟩ = some (.string ⟨⟨q.2.1⟩⟩) ∧ wF.cell? ⟨g, i * 4 + 2, none⟩ = some (.string ⟨⟨q.2.2.1⟩⟩) ∧ wF.cell? ⟨g, i * 4 + 3, none⟩ = some (.string ⟨⟨q.2.2.2⟩⟩)) := Lib.hid fun i q hq => by
              have hi : i < C.length := (List.getElem?_eq_some_iff.1 hq).1
              obtain ⟨q0, q1, q2, q3⟩ := cQ_get C i q hq
              have hcell : ∀ x, x < C.length * 4 → wF.cell? ⟨g, x, none⟩ = (cQ C)[x]? := fun x hx => by
                rw [cell_of_row wF g x _ _ _ KF.out]
                have e1 : cur.toList.take (C.length * 4) = cQ C := by
                  have : cur.toList.take (C.length * 4) = (cur.toList.take (n * 4)).take (C.length * 4) := by rw [List.take_take, Nat.min_eq_left (by omega)]
                  rw [this, h10]
                  unfold mixQ
                  rw [List.take_append_of_le_length (by rw [cQ_length]; exact Nat.le_refl _), List.take_of_length_le (by rw [cQ_length]; exact Nat.le_refl _)]
                rw [e1, List.getElem?_toArray, List.append_assoc, List.getElem?_append_left (by rw [cQ_length]; exact hx)]
              exact ⟨(hcell _ (by omega)).trans q0, (hcell _ (by omega)).trans q1, (hcell _ (by omega)).trans q2, (hcell _ (by omega)).trans q3⟩
            replace hwF := Lib.hid hwF
            replace h10 := Lib.hid h10
            replace hJ := Lib.hid hJ
            clear OR KF h5 hz hzs
            go_wp2_with fail
            go_ret
            refine ⟨⟨C.length, rfl, ?_, by omega, fun i q hq => ?_⟩, GF.out⟩
            · exact congrArg List.length HC.out
            · rw [← HC.out] at hq; exact cells.out i q hq
      · have hde : decide ((a, b, d, e) = (a', b', d', e')) = false := decide_eq_false he
        rw [hde] at EQ
        have HC2 := Lib.hid (cmpct_self L k HC.out _ _ hp EP1.out (by omega) he)
        replace hp := Lib.hid hp
        replace hq := Lib.hid hq
        clear hde he
        go_wp2_with fail
        go_quiet (fail)
        go_wp2
        go_roundw
        case rel => exact ⟨k + 1, _, by go_num, by omega, by omega, HC2, rfl⟩
        case measure => simp [intOf]; omega
    · obtain rfl : k = n := by omega
      have hL : L.take L.length = L := List.take_length ..
      go_wp2_with fail
      go_ret
      refine ⟨⟨k, rfl, ?_, Nat.le_refl _, fun i q hq => ?_⟩, ⟨rfl, rfl, rfl, Nat.le_refl _, fun _ _ _ => rfl⟩⟩
      · rw [HC.out, List.length_take, ← hn'.out, Nat.min_self]
      · rw [HC.out, hn'.out, List.take_length] at hq
        exact AT.out i q (by have := (List.getElem?_eq_some_iff.1 hq).1; have := hn'.out; omega) hq
end Sc
end Go.Proofs.YtppbejebmlcloaaDoor
