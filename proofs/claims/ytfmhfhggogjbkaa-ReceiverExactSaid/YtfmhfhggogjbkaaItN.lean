/- The reference's Normal of any list. -/
import Derived.Test.YtfmhfhggogjbkaaRfNP
import Derived.Test.YtfmhfhggogjbkaaItX
import Derived.Lib.MinMax
import Derived.Deep.RegionHeld3
import Derived.RegionTactic
import Derived.Test.YtfmhfhggogjbkaaMidN
set_option linter.unusedVariables false
set_option linter.unusedSimpArgs false
namespace Go.Proofs.Ytfmhfhggogjbkaa
open Go.RowKit Dice
namespace Spn
open Sp (cells2 cells2_snoc cells2_get Spans own_kept own_below own_mono own_shape)
set_option tactic.hygienic false in
set_option maxHeartbeats 4000000 in
set_option maxRecDepth 100000 in
theorem refnormal_anyw {w : World} {v : Value} {L : LP} (h : Itw w v L) (h9 : L.length ≤ 200) :
    Calls Try.prog 23 #[v] w fun e w' => (∃ r N, e = .returned r ∧ Spans w' w.heap.size r N ∧ Is N (hasB L) ∧ N.length ≤ L.length) ∧ Below w.heap.size w w' := by
  obtain ⟨i0, hi, hz0, hz1, hz2⟩ := info_get infoS
  have hsz : (Try.prog.info? 49).map (·.size) = some 2 := by rw [hi]; simp [hz1]
  obtain ⟨ad, c, rfl, hc, hf⟩ := itw_form h
  obtain ⟨n, hn⟩ : ∃ n, n = L.length := ⟨_, rfl⟩
  rw [← hn] at hc h9 ⊢
  replace hn := Lib.hid hn
  have F := Lib.hid hf
  have W0 := Lib.hid (Below.refl w.heap.size w)
  have O0 : Hid (Spans w w.heap.size (.slice none 0 0) []) := Lib.hid (World.ownsRow_nil _ _ _ _)
  have N0 := Lib.hid (Ns.start L)
  clear h hf
  go_enter Try.func23, Try.ntmps23
  go_wp2_with fail
  go_loopw [3, 4] (fun s i wr => ∃ (kx : Nat) (S : LP), kx ≤ n ∧ i = .int .i64 kx ∧ Hid (Spans wr w.heap.size s S) ∧ Hid (Ns L kx S) ∧ Hid (Below w.heap.size w wr)) (fun _ i _ => n - (intOf i).toNat)
  case atStart => exact ⟨0, [], Nat.zero_le _, rfl, O0, N0, W0⟩
  case round =>
    clear W0 O0 N0
    obtain ⟨kx, S, hk, rfl, O, HN, HB⟩ := hrel
    obtain ⟨sa, sc, rfl⟩ := own_len O.out
    obtain ⟨m, hm⟩ : ∃ m, m = S.length := ⟨_, rfl⟩
    have hmk : m ≤ kx := by rw [hm]; exact HN.out.len
    unfold Spans at O
    rw [← hm] at O ⊢
    replace hm := Lib.hid hm
    by_cases hlt : kx < n
    · obtain ⟨⟨f, t⟩, hp⟩ : ∃ p, L[kx]? = some p := ⟨L[kx]'(by rw [← hn.out]; exact hlt), List.getElem?_eq_getElem _⟩
      obtain ⟨g, o, rfl, hg, q0, q1⟩ := F.out kx _ hp
      have k0 := (HB.out.cell (p := ⟨g, _, none⟩) hg).trans q0
      have k1 := (HB.out.cell (p := ⟨g, _, none⟩) hg).trans q1
      dsimp only at k0 k1
      have b1 : (kx : Int) < n := by omega
      have hp' := Lib.hid hp
      clear q0 q1 hp
      by_cases ft : f < t
      · have dft : decide (t ≤ f) = false := decide_eq_false (by omega)
        go_wp2_with fail
        go_quiet (fail)
        go_wp2_with fail
        clear dft
        obtain ⟨wo, hwo⟩ : ∃ wo, wo = wr := ⟨_, rfl⟩
        subst hwo
        go_loopw [5] (fun v5 wr => ∃ kp : Nat, kp ≤ m ∧ v5 = .int .i64 kp ∧ Hid (∀ (j : Nat) (q : Int × Int), kp ≤ j → S[j]? = some q → f < q.1) ∧ Hid (Below wo.heap.size wo wr)) (fun v5 _ => (intOf v5).toNat)
        case atStart => exact ⟨m, Nat.le_refl _, rfl, Lib.hid (fun j q hj hq => by have := (List.getElem?_eq_some_iff.1 hq).1; have := hm.out; omega), Lib.hid (by repeat (first | exact Below.refl _ _ | refine Buf.below_drewN ?_ _))⟩
        case round =>
          obtain ⟨kp, hkm, rfl, HG, hb1⟩ := hrel
          have kk0 := (hb1.out.cell (p := ⟨g, _, none⟩) (World.block_lt_of_cell? _ _ k0)).trans k0
          have kk1 := (hb1.out.cell (p := ⟨g, _, none⟩) (World.block_lt_of_cell? _ _ k1)).trans k1
          rcases Nat.eq_zero_or_pos kp with hk0 | hk0
          · have HE : Hid (∀ (j : Nat) (q : Int × Int), j + 1 = kp → S[j]? = some q → q.1 ≤ f) := Lib.hid (fun j q hj => by omega)
            have d0 : decide ((0 : Int) < (kp : Int)) = false := decide_eq_false (by omega)
            have d0n : decide (0 < kp) = false := decide_eq_false (by omega)
            replace hk0 := Lib.hid hk0
            go_wp2_with fail
            go_quiet (fail)
            go_upto_region 9 with fail
            clear d0 d0n
            obtain ⟨wp, hwp⟩ : ∃ wp, wp = wr.drewN nq := ⟨_, rfl⟩
            have bp := Lib.hid (show Below wo.heap.size wo wp by rw [hwp]; exact Buf.below_drewN hb1.out _)
            have j0 : wp.cell? ⟨g, o + kx * 2, none⟩ = some (.int .i64 f) := by rw [hwp]; exact kk0
            have j1 : wp.cell? ⟨g, o + kx * 2 + 1, none⟩ = some (.int .i64 t) := by rw [hwp]; exact kk1
            rw [← hwp]
            clear hwp kk0 kk1 k0 k1 hb1
            have hb3 := Lib.hid (heap_alloc_new wp (.cells #[.int .i64 f, .int .i64 t] 49))
            have O3 := Lib.hid (own_below (own_below O.out bp.out) (new_block (w := wp) (.cells #[.int .i64 f, .int .i64 t] 49)))
            have one : Hid (∀ u ∈ [Value.int .i64 f, .int .i64 t], u.oneCell' = true) := Lib.hid (by intro u hu; simp at hu; rcases hu with rfl | rfl <;> rfl)
            have hB3 := Lib.hid (show w.heap.size ≤ (wp.alloc (.cells #[.int .i64 f, .int .i64 t] 49)).heap.size by have := HB.out.size; have := bp.out.size; simp; omega)
            go_upto_region 10 with (at_builtin; refine wpList_append_lies _ rfl (.tmp 46) (.tmp 51) 23 rfl w.heap.size 49 i0 (.agg #[.int .i64 0, .int .i64 0]) 2 16 Try.underlying23 hi hz0 hz1 hz2 rfl (by decide) _ m (cells2 S) rfl O3.out ⟨wp.heap.size, 0, none⟩ 1 1 [.int .i64 f, .int .i64 t] rfl rfl (World.news_of_block hb3.out) one.out (by decide) (by unfold maxLen; omega) (by omega) hB3.out _ rfl ?_; intro gq cq w5 O2 G2 hg2 hl2)
            have O5 := Lib.hid (show w5.ownsRow w.heap.size 49 2 (.slice (some ⟨gq, 0, none⟩) (m + 1) cq) (m + 1) (cells2 (S ++ [(f, t)])) by rw [cells2_snoc]; exact O2)
            have B5 := Lib.hid (show Below w.heap.size w w5 from (Buf.then_ (Buf.then_ HB.out bp.out) (new_block (w := wp) (.cells #[.int .i64 f, .int .i64 t] 49))).grown G2 (by have := HB.out.size; have := bp.out.size; simp; omega) (fun b hb => (O3.out.lt b hb).1))
            obtain ⟨_, hgq5⟩ := O5.out.lt gq rfl
            have hgqB := (O5.out.lt gq rfl).1
            have cqk : m + 1 ≤ cq := by
              rcases O5.out.2 with ⟨e, _⟩ | ⟨_, _, _, e, _, _, hc', _⟩
              · cases e
              · cases e; exact hc'
            have wk : IntKind.i64.wrap ((kp : Int) + 1) = (kp : Int) + 1 := IntWalk.i64_in _ (by omega)
            have ck2 : (kp : Int) ≤ (cq : Int) := by omega
            have ck1 : (kp : Int) + 1 ≤ (cq : Int) := by omega
            have ck6 : ((kp + 1 : Nat) : Int) = (kp : Int) + 1 := by omega
            have ck3 : (kp : Int) ≤ (m : Int) + 1 := by omega
            have ck7 : (kp : Int) + 1 ≤ (m : Int) + 1 := by omega
            have g7 := Lib.hid (show w5.cell? ⟨g, o + kx * 2, none⟩ = some (.int .i64 f) ∧ w5.cell? ⟨g, o + kx * 2 + 1, none⟩ = some (.int .i64 t) ∧ g < w.heap.size from by
              obtain ⟨gx, ox, ex, hgx, y0, y1⟩ := F.out kx _ hp'.out
              cases ex
              exact ⟨(B5.out.cell (p := ⟨g, _, none⟩) hgx).trans y0, (B5.out.cell (p := ⟨g, _, none⟩) hgx).trans y1, hgx⟩)
            have F_cell := Lib.hid (show w.cell? ⟨g, o + kx * 2, none⟩ = some (.int .i64 f) ∧ w.cell? ⟨g, o + kx * 2 + 1, none⟩ = some (.int .i64 t) from by
              obtain ⟨gx, ox, ex, hgx, y0, y1⟩ := F.out kx _ hp'.out
              cases ex
              exact ⟨y0, y1⟩)
            have NI := Lib.hid (HN.out.ins hp'.out ft (by have := hm.out; omega) HG.out HE.out)
            clear O2 G2 hg2 hl2 O3 hb3 hB3 one j0 j1 bp HB O HN HG HE
            by_cases hkm2 : kp = m
            · have qc := Lib.hid (show kp + 1 ≤ cq by omega)
              have qd := Lib.hid (show kp + 1 ≤ m + 1 by omega)
              have qe := Lib.hid (show kp ≤ m + 1 by omega)
              have qf := Lib.hid (show ¬ (m + 1 < kp) by omega)
              replace hkm2 := Lib.hid hkm2
              refine wp_region_noPanic ?_
              refine wp_region_any (by kernel_rfl) ?_
              refine Inv.wpAny_inv (fun k => k == 7) [53, 54, 55, 56, 57, 58, 59] (fun w' => Below w5.heap.size w5 w') (fun _ w1 w2 => Below w1.heap.size w1 w2) (fun k => ([fun v_ w_ => v_ = .slice (some ⟨gq, 0, none⟩) (m + 1) cq, fun v_ w_ => v_ = .int .i64 (kp : Int), fun v_ w_ => v_ = .int .i64 ((kp : Int) + 1), fun v_ w_ => ∃ x l c, v_ = .slice x l c ∧ l = 0, fun v_ w_ => v_ = .slice (some ⟨gq, 0, none⟩) (m + 1) cq, fun v_ w_ => v_ = .int .i64 (kp : Int), fun v_ w_ => ∃ x l c, v_ = .slice x l c ∧ l = 1, fun v_ w_ => True] : List (Value → World → Prop)).getD k (fun _ _ => True)) _ (fun σ => by simp only [Inv.putAll, List.foldl_cons, List.foldl_nil, Act.put, List.setIfInBounds_toArray, List.set_cons_zero, List.set_cons_succ]; rfl) (by kernel_rfl) (by kernel_rfl) ?_ (Below.refl _ _).drew ?_ ?_ 1 #[true, true, true, true, true, true, true, false] (by kernel_rfl) (by kernel_rfl) ?_
              · intro j k v w1 w2 hjk hv hr
                rcases k with _ | k
                · exact hv
                rcases k with _ | k
                · exact hv
                rcases k with _ | k
                · exact hv
                rcases k with _ | k
                · exact hv
                rcases k with _ | k
                · exact hv
                rcases k with _ | k
                · exact hv
                rcases k with _ | k
                · exact hv
                rcases k with _ | k
                · exact hv
                · exact hv
              · intro k t hl hd
                rcases k with _ | k
                · exact absurd hl (by decide +kernel)
                rcases k with _ | k
                · exact absurd hl (by decide +kernel)
                rcases k with _ | k
                · exact absurd hl (by decide +kernel)
                rcases k with _ | k
                · exact absurd hl (by decide +kernel)
                rcases k with _ | k
                · exact absurd hl (by decide +kernel)
                rcases k with _ | k
                · exact absurd hl (by decide +kernel)
                rcases k with _ | k
                · exact absurd hl (by decide +kernel)
                rcases k with _ | k
                · exact absurd hl (by decide +kernel)
                · simp at hd
              · show Inv.Steps _ _ _ _ _ _ _ _ [0, 1, 2, 3, 4, 5, 6]
                refine Inv.Steps.go (by decide) (by rfl) (fun σ wx hw hd K hK => ?_) ?_
                · simp only [List.getElem_toArray, List.getElem_cons_zero, List.getElem_cons_succ, Act.put, List.setIfInBounds_toArray, List.set_cons_zero, List.set_cons_succ] at hK ⊢
                  go_simp
                  exact hK.out _ _ hw (Below.refl _ _) (rfl)
                refine Inv.Steps.go (by decide) (by rfl) (fun σ wx hw hd K hK => ?_) ?_
                · simp only [List.getElem_toArray, List.getElem_cons_zero, List.getElem_cons_succ, Act.put, List.setIfInBounds_toArray, List.set_cons_zero, List.set_cons_succ] at hK ⊢
                  go_simp
                  exact hK.out _ _ hw (Below.refl _ _) (rfl)
                refine Inv.Steps.go (by decide) (by rfl) (fun σ wx hw hd K hK => ?_) ?_
                · obtain e54 : (σ 54) = .int .i64 (kp : Int) := hd 1 (some 54) (by kernel_rfl) (by rfl)
                  simp only [List.getElem_toArray, List.getElem_cons_zero, List.getElem_cons_succ, Act.put, List.setIfInBounds_toArray, List.set_cons_zero, List.set_cons_succ, e54] at hK ⊢
                  go_simp
                  exact hK.out _ _ hw (Below.refl _ _) (rfl)
                refine Inv.Steps.go (by decide) (by rfl) (fun σ wx hw hd K hK => ?_) ?_
                · obtain e53 : (σ 53) = .slice (some ⟨gq, 0, none⟩) (m + 1) cq := hd 0 (some 53) (by kernel_rfl) (by rfl)
                  obtain e55 : (σ 55) = .int .i64 ((kp : Int) + 1) := hd 2 (some 55) (by kernel_rfl) (by rfl)
                  simp only [List.getElem_toArray, List.getElem_cons_zero, List.getElem_cons_succ, Act.put, List.setIfInBounds_toArray, List.set_cons_zero, List.set_cons_succ, e53, e55] at hK ⊢
                  go_simp
                  try simp only [if_pos qc.out, if_pos qd.out, if_pos qe.out, if_neg qf.out]
                  try go_simp
                  exact hK.out _ _ hw (Below.refl _ _) (⟨_, _, _, rfl, by have := hkm2.out; omega⟩)
                refine Inv.Steps.go (by decide) (by rfl) (fun σ wx hw hd K hK => ?_) ?_
                · simp only [List.getElem_toArray, List.getElem_cons_zero, List.getElem_cons_succ, Act.put, List.setIfInBounds_toArray, List.set_cons_zero, List.set_cons_succ] at hK ⊢
                  go_simp
                  exact hK.out _ _ hw (Below.refl _ _) (rfl)
                refine Inv.Steps.go (by decide) (by rfl) (fun σ wx hw hd K hK => ?_) ?_
                · simp only [List.getElem_toArray, List.getElem_cons_zero, List.getElem_cons_succ, Act.put, List.setIfInBounds_toArray, List.set_cons_zero, List.set_cons_succ] at hK ⊢
                  go_simp
                  exact hK.out _ _ hw (Below.refl _ _) (rfl)
                refine Inv.Steps.go (by decide) (by rfl) (fun σ wx hw hd K hK => ?_) ?_
                · obtain e57 : (σ 57) = .slice (some ⟨gq, 0, none⟩) (m + 1) cq := hd 4 (some 57) (by kernel_rfl) (by rfl)
                  obtain e58 : (σ 58) = .int .i64 (kp : Int) := hd 5 (some 58) (by kernel_rfl) (by rfl)
                  simp only [List.getElem_toArray, List.getElem_cons_zero, List.getElem_cons_succ, Act.put, List.setIfInBounds_toArray, List.set_cons_zero, List.set_cons_succ, e57, e58] at hK ⊢
                  go_simp
                  try simp only [if_pos qc.out, if_pos qd.out, if_pos qe.out, if_neg qf.out]
                  try go_simp
                  exact hK.out _ _ hw (Below.refl _ _) (⟨_, _, _, rfl, by have := hkm2.out; omega⟩)
                exact Inv.Steps.nil
              · intro σ wx hw hd
                obtain ⟨x56, l56, c56, e56, rfl⟩ : ∃ x l c, (σ 56) = .slice x l c ∧ l = 0 := hd 3 (some 56) (by rfl) (by rfl)
                obtain ⟨x59, l59, c59, e59, rfl⟩ : ∃ x l c, (σ 59) = .slice x l c ∧ l = 1 := hd 6 (some 59) (by rfl) (by rfl)
                simp only [e56, e59]
                refine Inv.one (i := 7) (by decide) (by kernel_rfl) (by rfl) (fun K hK => ?_)
                simp only [List.getElem_toArray, List.getElem_cons_zero, List.getElem_cons_succ, Act.put, List.setIfInBounds_toArray, List.set_cons_zero, List.set_cons_succ] at hK ⊢
                refine wp_copy_none (.tmp 56) (.tmp 59) 23 23 rfl 49 2 Try.underlying23 hsz x56 x59 c56 1 c59 (by simp [Act.eval]) (by simp [Act.eval]) ?_
                refine hK.out _ _ ?_
                clear hK K hd
                refine Inv.done (by kernel_rfl) (NoPanic.normal ?_)
                have O6 : Hid (wx.ownsRow w.heap.size 49 2 (.slice (some ⟨gq, 0, none⟩) (m + 1) cq) (m + 1) (cells2 ((S ++ [(f, t)]).take (kp + 1) ++ S.drop kp))) := Lib.hid (by rw [hkm2.out, List.take_of_length_le (by simp; have := hm.out; omega), List.drop_of_length_le (by have := hm.out; omega), List.append_nil]; exact own_below O5.out hw)
                have B6 := Lib.hid (Buf.then_ B5.out hw)
                generalize wx = w6 at *
                generalize σ 53 = v53
                generalize σ 54 = v54
                generalize σ 55 = v55
                generalize σ 57 = v57
                generalize σ 58 = v58
                have hlen6 : (((S ++ [(f, t)]).take (kp + 1) ++ S.drop kp)).length = m + 1 := by simp; have := hm.out; omega
                obtain ⟨p6, hp6⟩ : ∃ p, (((S ++ [(f, t)]).take (kp + 1) ++ S.drop kp))[kp]? = some p := ⟨_, List.getElem?_eq_getElem (by omega)⟩
                obtain ⟨hz9, _, gq', egq, hgq6, _, s0, s1, s2, s3⟩ := own_get (L := (S ++ [(f, t)]).take (kp + 1) ++ S.drop kp) (n := m + 1) (show Spans w6 w.heap.size (.slice (some ⟨gq, 0, none⟩) (m + 1) cq) _ from by unfold Spans; rw [hlen6]; exact O6.out) hp6
                cases egq
                clear hz9 hp6 hlen6
                have y0 := (B6.out.cell (p := ⟨g, o + kx * 2, none⟩) g7.out.2.2).trans ((F_cell.out).1)
                have y1 := (B6.out.cell (p := ⟨g, o + kx * 2 + 1, none⟩) g7.out.2.2).trans ((F_cell.out).2)
                have bk6 : (kp : Int) < (m : Int) + 1 := by omega
                have OX := Lib.hid (own_put O6.out kp (f, t))
                rw [insL_set S (f, t) kp (by have := hm.out; omega)] at OX
                have BX := Lib.hid ((B6.out.setCell (p := ⟨gq, kp * 2, none⟩) hgqB (.int .i64 f)).setCell (p := ⟨gq, kp * 2 + 1, none⟩) hgqB (.int .i64 t))
                have hlX : Hid ((insL S (f, t) kp).length = m + 1) := Lib.hid (by rw [insL_len S _ kp (by have := hm.out; omega), ← hm.out])
                clear O6 B6 O5 B5
                go_wp2_with fail
                go_roundw
                case rel => exact ⟨kx + 1, insL S (f, t) kp, by omega, by go_num, Lib.hid (by unfold Spans; rw [hlX.out]; exact OX.out), NI, Lib.hid BX.out⟩
                case measure => simp [intOf]; omega
            · have qc := Lib.hid (show kp + 1 ≤ cq by omega)
              have qd := Lib.hid (show kp + 1 ≤ m + 1 by omega)
              have qe := Lib.hid (show kp ≤ m + 1 by omega)
              have qf := Lib.hid (show ¬ (m + 1 < kp) by omega)
              have qg := Lib.hid (show ¬ (cq = kp + 1) by omega)
              have qh := Lib.hid (show ¬ (cq = kp) by omega)
              refine wp_region_noPanic ?_
              refine wp_region_any (by kernel_rfl) ?_
              refine Inv.wpAny_inv (fun k => k == 7) [53, 54, 55, 56, 57, 58, 59] (fun w' => Below w5.heap.size w5 w') (fun _ w1 w2 => Below w1.heap.size w1 w2) (fun k => ([fun v_ w_ => v_ = .slice (some ⟨gq, 0, none⟩) (m + 1) cq, fun v_ w_ => v_ = .int .i64 (kp : Int), fun v_ w_ => v_ = .int .i64 ((kp : Int) + 1), fun v_ w_ => v_ = .slice (some ⟨gq, (kp + 1) * 2, none⟩) (m - kp) (cq - (kp + 1)), fun v_ w_ => v_ = .slice (some ⟨gq, 0, none⟩) (m + 1) cq, fun v_ w_ => v_ = .int .i64 (kp : Int), fun v_ w_ => v_ = .slice (some ⟨gq, kp * 2, none⟩) (m + 1 - kp) (cq - kp), fun v_ w_ => True] : List (Value → World → Prop)).getD k (fun _ _ => True)) _ (fun σ => by simp only [Inv.putAll, List.foldl_cons, List.foldl_nil, Act.put, List.setIfInBounds_toArray, List.set_cons_zero, List.set_cons_succ]; rfl) (by kernel_rfl) (by kernel_rfl) ?_ (Below.refl _ _).drew ?_ ?_ 1 #[true, true, true, true, true, true, true, false] (by kernel_rfl) (by kernel_rfl) ?_
              · intro j k v w1 w2 hjk hv hr
                rcases k with _ | k
                · exact hv
                rcases k with _ | k
                · exact hv
                rcases k with _ | k
                · exact hv
                rcases k with _ | k
                · exact hv
                rcases k with _ | k
                · exact hv
                rcases k with _ | k
                · exact hv
                rcases k with _ | k
                · exact hv
                rcases k with _ | k
                · exact hv
                · exact hv
              · intro k t hl hd
                rcases k with _ | k
                · exact absurd hl (by decide +kernel)
                rcases k with _ | k
                · exact absurd hl (by decide +kernel)
                rcases k with _ | k
                · exact absurd hl (by decide +kernel)
                rcases k with _ | k
                · exact absurd hl (by decide +kernel)
                rcases k with _ | k
                · exact absurd hl (by decide +kernel)
                rcases k with _ | k
                · exact absurd hl (by decide +kernel)
                rcases k with _ | k
                · exact absurd hl (by decide +kernel)
                rcases k with _ | k
                · exact absurd hl (by decide +kernel)
                · simp at hd
              · show Inv.Steps _ _ _ _ _ _ _ _ [0, 1, 2, 3, 4, 5, 6]
                refine Inv.Steps.go (by decide) (by rfl) (fun σ wx hw hd K hK => ?_) ?_
                · simp only [List.getElem_toArray, List.getElem_cons_zero, List.getElem_cons_succ, Act.put, List.setIfInBounds_toArray, List.set_cons_zero, List.set_cons_succ] at hK ⊢
                  go_simp
                  exact hK.out _ _ hw (Below.refl _ _) (rfl)
                refine Inv.Steps.go (by decide) (by rfl) (fun σ wx hw hd K hK => ?_) ?_
                · simp only [List.getElem_toArray, List.getElem_cons_zero, List.getElem_cons_succ, Act.put, List.setIfInBounds_toArray, List.set_cons_zero, List.set_cons_succ] at hK ⊢
                  go_simp
                  exact hK.out _ _ hw (Below.refl _ _) (rfl)
                refine Inv.Steps.go (by decide) (by rfl) (fun σ wx hw hd K hK => ?_) ?_
                · obtain e54 : (σ 54) = .int .i64 (kp : Int) := hd 1 (some 54) (by kernel_rfl) (by rfl)
                  simp only [List.getElem_toArray, List.getElem_cons_zero, List.getElem_cons_succ, Act.put, List.setIfInBounds_toArray, List.set_cons_zero, List.set_cons_succ, e54] at hK ⊢
                  go_simp
                  exact hK.out _ _ hw (Below.refl _ _) (rfl)
                refine Inv.Steps.go (by decide) (by rfl) (fun σ wx hw hd K hK => ?_) ?_
                · obtain e53 : (σ 53) = .slice (some ⟨gq, 0, none⟩) (m + 1) cq := hd 0 (some 53) (by kernel_rfl) (by rfl)
                  obtain e55 : (σ 55) = .int .i64 ((kp : Int) + 1) := hd 2 (some 55) (by kernel_rfl) (by rfl)
                  simp only [List.getElem_toArray, List.getElem_cons_zero, List.getElem_cons_succ, Act.put, List.setIfInBounds_toArray, List.set_cons_zero, List.set_cons_succ, e53, e55] at hK ⊢
                  go_simp
                  try simp only [if_pos qc.out, if_pos qd.out, if_pos qe.out, if_neg qf.out]
                  try go_simp
                  try simp only [if_neg qg.out, if_neg qh.out]
                  exact hK.out _ _ hw (Below.refl _ _) (rfl)
                refine Inv.Steps.go (by decide) (by rfl) (fun σ wx hw hd K hK => ?_) ?_
                · simp only [List.getElem_toArray, List.getElem_cons_zero, List.getElem_cons_succ, Act.put, List.setIfInBounds_toArray, List.set_cons_zero, List.set_cons_succ] at hK ⊢
                  go_simp
                  exact hK.out _ _ hw (Below.refl _ _) (rfl)
                refine Inv.Steps.go (by decide) (by rfl) (fun σ wx hw hd K hK => ?_) ?_
                · simp only [List.getElem_toArray, List.getElem_cons_zero, List.getElem_cons_succ, Act.put, List.setIfInBounds_toArray, List.set_cons_zero, List.set_cons_succ] at hK ⊢
                  go_simp
                  exact hK.out _ _ hw (Below.refl _ _) (rfl)
                refine Inv.Steps.go (by decide) (by rfl) (fun σ wx hw hd K hK => ?_) ?_
                · obtain e57 : (σ 57) = .slice (some ⟨gq, 0, none⟩) (m + 1) cq := hd 4 (some 57) (by kernel_rfl) (by rfl)
                  obtain e58 : (σ 58) = .int .i64 (kp : Int) := hd 5 (some 58) (by kernel_rfl) (by rfl)
                  simp only [List.getElem_toArray, List.getElem_cons_zero, List.getElem_cons_succ, Act.put, List.setIfInBounds_toArray, List.set_cons_zero, List.set_cons_succ, e57, e58] at hK ⊢
                  go_simp
                  try simp only [if_pos qc.out, if_pos qd.out, if_pos qe.out, if_neg qf.out]
                  try go_simp
                  try simp only [if_neg qg.out, if_neg qh.out]
                  exact hK.out _ _ hw (Below.refl _ _) (rfl)
                exact Inv.Steps.nil
              · intro σ wx hw hd
                obtain e56 : (σ 56) = .slice (some ⟨gq, (kp + 1) * 2, none⟩) (m - kp) (cq - (kp + 1)) := hd 3 (some 56) (by rfl) (by rfl)
                obtain e59 : (σ 59) = .slice (some ⟨gq, kp * 2, none⟩) (m + 1 - kp) (cq - kp) := hd 6 (some 59) (by rfl) (by rfl)
                simp only [e56, e59]
                refine Inv.one (i := 7) (by decide) (by kernel_rfl) (by rfl) (fun K hK => ?_)
                simp only [List.getElem_toArray, List.getElem_cons_zero, List.getElem_cons_succ, Act.put, List.setIfInBounds_toArray, List.set_cons_zero, List.set_cons_succ] at hK ⊢
                obtain ⟨cur, hcur, cfit, clen, csrc, cown⟩ := own_move hm.out (own_below O5.out hw) kp hkm
                refine wp_copy_rowk (.tmp 56) (.tmp 59) 23 23 rfl 49 2 Try.underlying23 hsz gq ((kp + 1) * 2) (m - kp) (cq - (kp + 1)) ⟨gq, kp * 2, none⟩ (m + 1 - kp) (cq - kp) (by simp [Act.eval]) (by simp [Act.eval]) cur _ hcur (cells2 (S.drop kp)) (by rw [clen]; congr 1; show m - kp = min (m + 1 - kp) (m - kp); omega) csrc cfit (cells2_one _) ?_
                refine hK.out _ _ ?_
                clear hK K hd
                refine Inv.done (by kernel_rfl) (NoPanic.normal ?_)
                have O6 := Lib.hid cown
                have B6 := Lib.hid (Mid.below_row (Buf.then_ B5.out hw) gq (cur.toList.take ((kp + 1) * 2) ++ cells2 (S.drop kp) ++ cur.toList.drop ((kp + 1) * 2 + (cells2 (S.drop kp)).length)).toArray hgqB)
                generalize (wx.setRow gq (cur.toList.take ((kp + 1) * 2) ++ cells2 (S.drop kp) ++ cur.toList.drop ((kp + 1) * 2 + (cells2 (S.drop kp)).length)).toArray) = w6 at *
                clear hcur cfit clen csrc cown hw
                generalize σ 53 = v53
                generalize σ 54 = v54
                generalize σ 55 = v55
                generalize σ 57 = v57
                generalize σ 58 = v58
                have hlen6 : (((S ++ [(f, t)]).take (kp + 1) ++ S.drop kp)).length = m + 1 := by simp; have := hm.out; omega
                obtain ⟨p6, hp6⟩ : ∃ p, (((S ++ [(f, t)]).take (kp + 1) ++ S.drop kp))[kp]? = some p := ⟨_, List.getElem?_eq_getElem (by omega)⟩
                obtain ⟨hz9, _, gq', egq, hgq6, _, s0, s1, s2, s3⟩ := own_get (L := (S ++ [(f, t)]).take (kp + 1) ++ S.drop kp) (n := m + 1) (show Spans w6 w.heap.size (.slice (some ⟨gq, 0, none⟩) (m + 1) cq) _ from by unfold Spans; rw [hlen6]; exact O6.out) hp6
                cases egq
                clear hz9 hp6 hlen6
                have y0 := (B6.out.cell (p := ⟨g, o + kx * 2, none⟩) g7.out.2.2).trans ((F_cell.out).1)
                have y1 := (B6.out.cell (p := ⟨g, o + kx * 2 + 1, none⟩) g7.out.2.2).trans ((F_cell.out).2)
                have bk6 : (kp : Int) < (m : Int) + 1 := by omega
                have OX := Lib.hid (own_put O6.out kp (f, t))
                rw [insL_set S (f, t) kp (by have := hm.out; omega)] at OX
                have BX := Lib.hid ((B6.out.setCell (p := ⟨gq, kp * 2, none⟩) hgqB (.int .i64 f)).setCell (p := ⟨gq, kp * 2 + 1, none⟩) hgqB (.int .i64 t))
                have hlX : Hid ((insL S (f, t) kp).length = m + 1) := Lib.hid (by rw [insL_len S _ kp (by have := hm.out; omega), ← hm.out])
                clear O6 B6 O5 B5
                go_wp2_with fail
                go_roundw
                case rel => exact ⟨kx + 1, insL S (f, t) kp, by omega, by go_num, Lib.hid (by unfold Spans; rw [hlX.out]; exact OX.out), NI, Lib.hid BX.out⟩
                case measure => simp [intOf]; omega
          · obtain ⟨k1', hk1⟩ : ∃ k1', k1' + 1 = kp := ⟨kp - 1, by omega⟩
            obtain ⟨⟨x, y⟩, hx⟩ : ∃ p, S[k1']? = some p := ⟨S[k1']'(by have := hm.out; omega), List.getElem?_eq_getElem _⟩
            obtain ⟨hx1, msc, gs, hsa, hgs, _, c3, _⟩ := own_get (L := S) (n := m) (show Spans wo w.heap.size (.slice sa m sc) S from by unfold Spans; rw [← hm.out]; exact O.out) hx
            clear hx1
            subst hsa
            have kk3 := (hb1.out.cell (p := ⟨gs, _, none⟩) hgs).trans c3
            dsimp only at kk3
            have e1 : (kp : Int) - 1 = (k1' : Int) := by omega
            have bk : (k1' : Int) < (m : Int) := by omega
            have d0 : decide ((0 : Int) < (kp : Int)) = true := decide_eq_true (by omega)
            by_cases fx : f < x
            · have d1 : decide (f < x) = true := decide_eq_true fx
              have HG2 : Hid (∀ (j : Nat) (q : Int × Int), k1' ≤ j → S[j]? = some q → f < q.1) := Lib.hid (fun j q hj hq => by
                rcases Nat.lt_or_ge j kp with c | c
                · have : j = k1' := by omega
                  subst this; rw [hx] at hq; cases hq; exact fx
                · exact HG.out j q c hq)
              replace hk1 := Lib.hid hk1
              clear hx c3 HG
              go_wp2_with fail
              go_quiet (fail)
              go_wp2_with fail
              go_roundw
              case rel => exact ⟨k1', by have := hk1.out; omega, by go_num, HG2, Lib.hid (by repeat (first | exact hb1.out | refine Buf.below_drewN ?_ _))⟩
              case measure => simp [intOf]; have := hk1.out; omega
            · have d1 : decide (f < x) = false := decide_eq_false fx
              have HE : Hid (∀ (j : Nat) (q : Int × Int), j + 1 = kp → S[j]? = some q → q.1 ≤ f) := Lib.hid (fun j q hj hq => by
                have : j = k1' := by omega
                subst this; rw [hx] at hq; cases hq; simp only; omega)
              replace hk1 := Lib.hid hk1
              clear hx c3
              go_wp2_with fail
              go_quiet (fail)
              go_upto_region 9 with fail
              clear d0 d1 kk3 e1 bk fx
              obtain ⟨wp, hwp⟩ : ∃ wp, wp = wr.drewN nq := ⟨_, rfl⟩
              have bp := Lib.hid (show Below wo.heap.size wo wp by rw [hwp]; exact Buf.below_drewN hb1.out _)
              have j0 : wp.cell? ⟨g, o + kx * 2, none⟩ = some (.int .i64 f) := by rw [hwp]; exact kk0
              have j1 : wp.cell? ⟨g, o + kx * 2 + 1, none⟩ = some (.int .i64 t) := by rw [hwp]; exact kk1
              rw [← hwp]
              clear hwp kk0 kk1 k0 k1 hb1
              have hb3 := Lib.hid (heap_alloc_new wp (.cells #[.int .i64 f, .int .i64 t] 49))
              have O3 := Lib.hid (own_below (own_below O.out bp.out) (new_block (w := wp) (.cells #[.int .i64 f, .int .i64 t] 49)))
              have one : Hid (∀ u ∈ [Value.int .i64 f, .int .i64 t], u.oneCell' = true) := Lib.hid (by intro u hu; simp at hu; rcases hu with rfl | rfl <;> rfl)
              have hB3 := Lib.hid (show w.heap.size ≤ (wp.alloc (.cells #[.int .i64 f, .int .i64 t] 49)).heap.size by have := HB.out.size; have := bp.out.size; simp; omega)
              go_upto_region 10 with (at_builtin; refine wpList_append_lies _ rfl (.tmp 46) (.tmp 51) 23 rfl w.heap.size 49 i0 (.agg #[.int .i64 0, .int .i64 0]) 2 16 Try.underlying23 hi hz0 hz1 hz2 rfl (by decide) _ m (cells2 S) rfl O3.out ⟨wp.heap.size, 0, none⟩ 1 1 [.int .i64 f, .int .i64 t] rfl rfl (World.news_of_block hb3.out) one.out (by decide) (by unfold maxLen; omega) (by omega) hB3.out _ rfl ?_; intro gq cq w5 O2 G2 hg2 hl2)
              have O5 := Lib.hid (show w5.ownsRow w.heap.size 49 2 (.slice (some ⟨gq, 0, none⟩) (m + 1) cq) (m + 1) (cells2 (S ++ [(f, t)])) by rw [cells2_snoc]; exact O2)
              have B5 := Lib.hid (show Below w.heap.size w w5 from (Buf.then_ (Buf.then_ HB.out bp.out) (new_block (w := wp) (.cells #[.int .i64 f, .int .i64 t] 49))).grown G2 (by have := HB.out.size; have := bp.out.size; simp; omega) (fun b hb => (O3.out.lt b hb).1))
              obtain ⟨_, hgq5⟩ := O5.out.lt gq rfl
              have hgqB := (O5.out.lt gq rfl).1
              have cqk : m + 1 ≤ cq := by
                rcases O5.out.2 with ⟨e, _⟩ | ⟨_, _, _, e, _, _, hc', _⟩
                · cases e
                · cases e; exact hc'
              have wk : IntKind.i64.wrap ((kp : Int) + 1) = (kp : Int) + 1 := IntWalk.i64_in _ (by omega)
              have ck2 : (kp : Int) ≤ (cq : Int) := by omega
              have ck1 : (kp : Int) + 1 ≤ (cq : Int) := by omega
              have ck6 : ((kp + 1 : Nat) : Int) = (kp : Int) + 1 := by omega
              have ck3 : (kp : Int) ≤ (m : Int) + 1 := by omega
              have ck7 : (kp : Int) + 1 ≤ (m : Int) + 1 := by omega
              have g7 := Lib.hid (show w5.cell? ⟨g, o + kx * 2, none⟩ = some (.int .i64 f) ∧ w5.cell? ⟨g, o + kx * 2 + 1, none⟩ = some (.int .i64 t) ∧ g < w.heap.size from by
                obtain ⟨gx, ox, ex, hgx, y0, y1⟩ := F.out kx _ hp'.out
                cases ex
                exact ⟨(B5.out.cell (p := ⟨g, _, none⟩) hgx).trans y0, (B5.out.cell (p := ⟨g, _, none⟩) hgx).trans y1, hgx⟩)
              have F_cell := Lib.hid (show w.cell? ⟨g, o + kx * 2, none⟩ = some (.int .i64 f) ∧ w.cell? ⟨g, o + kx * 2 + 1, none⟩ = some (.int .i64 t) from by
                obtain ⟨gx, ox, ex, hgx, y0, y1⟩ := F.out kx _ hp'.out
                cases ex
                exact ⟨y0, y1⟩)
              have NI := Lib.hid (HN.out.ins hp'.out ft (by have := hm.out; omega) HG.out HE.out)
              clear O2 G2 hg2 hl2 O3 hb3 hB3 one j0 j1 bp HB O HN HG HE
              by_cases hkm2 : kp = m
              · have qc := Lib.hid (show kp + 1 ≤ cq by omega)
                have qd := Lib.hid (show kp + 1 ≤ m + 1 by omega)
                have qe := Lib.hid (show kp ≤ m + 1 by omega)
                have qf := Lib.hid (show ¬ (m + 1 < kp) by omega)
                replace hkm2 := Lib.hid hkm2
                refine wp_region_noPanic ?_
                refine wp_region_any (by kernel_rfl) ?_
                refine Inv.wpAny_inv (fun k => k == 7) [53, 54, 55, 56, 57, 58, 59] (fun w' => Below w5.heap.size w5 w') (fun _ w1 w2 => Below w1.heap.size w1 w2) (fun k => ([fun v_ w_ => v_ = .slice (some ⟨gq, 0, none⟩) (m + 1) cq, fun v_ w_ => v_ = .int .i64 (kp : Int), fun v_ w_ => v_ = .int .i64 ((kp : Int) + 1), fun v_ w_ => ∃ x l c, v_ = .slice x l c ∧ l = 0, fun v_ w_ => v_ = .slice (some ⟨gq, 0, none⟩) (m + 1) cq, fun v_ w_ => v_ = .int .i64 (kp : Int), fun v_ w_ => ∃ x l c, v_ = .slice x l c ∧ l = 1, fun v_ w_ => True] : List (Value → World → Prop)).getD k (fun _ _ => True)) _ (fun σ => by simp only [Inv.putAll, List.foldl_cons, List.foldl_nil, Act.put, List.setIfInBounds_toArray, List.set_cons_zero, List.set_cons_succ]; rfl) (by kernel_rfl) (by kernel_rfl) ?_ (Below.refl _ _).drew ?_ ?_ 1 #[true, true, true, true, true, true, true, false] (by kernel_rfl) (by kernel_rfl) ?_
                · intro j k v w1 w2 hjk hv hr
                  rcases k with _ | k
                  · exact hv
                  rcases k with _ | k
                  · exact hv
                  rcases k with _ | k
                  · exact hv
                  rcases k with _ | k
                  · exact hv
                  rcases k with _ | k
                  · exact hv
                  rcases k with _ | k
                  · exact hv
                  rcases k with _ | k
                  · exact hv
                  rcases k with _ | k
                  · exact hv
                  · exact hv
                · intro k t hl hd
                  rcases k with _ | k
                  · exact absurd hl (by decide +kernel)
                  rcases k with _ | k
                  · exact absurd hl (by decide +kernel)
                  rcases k with _ | k
                  · exact absurd hl (by decide +kernel)
                  rcases k with _ | k
                  · exact absurd hl (by decide +kernel)
                  rcases k with _ | k
                  · exact absurd hl (by decide +kernel)
                  rcases k with _ | k
                  · exact absurd hl (by decide +kernel)
                  rcases k with _ | k
                  · exact absurd hl (by decide +kernel)
                  rcases k with _ | k
                  · exact absurd hl (by decide +kernel)
                  · simp at hd
                · show Inv.Steps _ _ _ _ _ _ _ _ [0, 1, 2, 3, 4, 5, 6]
                  refine Inv.Steps.go (by decide) (by rfl) (fun σ wx hw hd K hK => ?_) ?_
                  · simp only [List.getElem_toArray, List.getElem_cons_zero, List.getElem_cons_succ, Act.put, List.setIfInBounds_toArray, List.set_cons_zero, List.set_cons_succ] at hK ⊢
                    go_simp
                    exact hK.out _ _ hw (Below.refl _ _) (rfl)
                  refine Inv.Steps.go (by decide) (by rfl) (fun σ wx hw hd K hK => ?_) ?_
                  · simp only [List.getElem_toArray, List.getElem_cons_zero, List.getElem_cons_succ, Act.put, List.setIfInBounds_toArray, List.set_cons_zero, List.set_cons_succ] at hK ⊢
                    go_simp
                    exact hK.out _ _ hw (Below.refl _ _) (rfl)
                  refine Inv.Steps.go (by decide) (by rfl) (fun σ wx hw hd K hK => ?_) ?_
                  · obtain e54 : (σ 54) = .int .i64 (kp : Int) := hd 1 (some 54) (by kernel_rfl) (by rfl)
                    simp only [List.getElem_toArray, List.getElem_cons_zero, List.getElem_cons_succ, Act.put, List.setIfInBounds_toArray, List.set_cons_zero, List.set_cons_succ, e54] at hK ⊢
                    go_simp
                    exact hK.out _ _ hw (Below.refl _ _) (rfl)
                  refine Inv.Steps.go (by decide) (by rfl) (fun σ wx hw hd K hK => ?_) ?_
                  · obtain e53 : (σ 53) = .slice (some ⟨gq, 0, none⟩) (m + 1) cq := hd 0 (some 53) (by kernel_rfl) (by rfl)
                    obtain e55 : (σ 55) = .int .i64 ((kp : Int) + 1) := hd 2 (some 55) (by kernel_rfl) (by rfl)
                    simp only [List.getElem_toArray, List.getElem_cons_zero, List.getElem_cons_succ, Act.put, List.setIfInBounds_toArray, List.set_cons_zero, List.set_cons_succ, e53, e55] at hK ⊢
                    go_simp
                    try simp only [if_pos qc.out, if_pos qd.out, if_pos qe.out, if_neg qf.out]
                    try go_simp
                    exact hK.out _ _ hw (Below.refl _ _) (⟨_, _, _, rfl, by have := hkm2.out; omega⟩)
                  refine Inv.Steps.go (by decide) (by rfl) (fun σ wx hw hd K hK => ?_) ?_
                  · simp only [List.getElem_toArray, List.getElem_cons_zero, List.getElem_cons_succ, Act.put, List.setIfInBounds_toArray, List.set_cons_zero, List.set_cons_succ] at hK ⊢
                    go_simp
                    exact hK.out _ _ hw (Below.refl _ _) (rfl)
                  refine Inv.Steps.go (by decide) (by rfl) (fun σ wx hw hd K hK => ?_) ?_
                  · simp only [List.getElem_toArray, List.getElem_cons_zero, List.getElem_cons_succ, Act.put, List.setIfInBounds_toArray, List.set_cons_zero, List.set_cons_succ] at hK ⊢
                    go_simp
                    exact hK.out _ _ hw (Below.refl _ _) (rfl)
                  refine Inv.Steps.go (by decide) (by rfl) (fun σ wx hw hd K hK => ?_) ?_
                  · obtain e57 : (σ 57) = .slice (some ⟨gq, 0, none⟩) (m + 1) cq := hd 4 (some 57) (by kernel_rfl) (by rfl)
                    obtain e58 : (σ 58) = .int .i64 (kp : Int) := hd 5 (some 58) (by kernel_rfl) (by rfl)
                    simp only [List.getElem_toArray, List.getElem_cons_zero, List.getElem_cons_succ, Act.put, List.setIfInBounds_toArray, List.set_cons_zero, List.set_cons_succ, e57, e58] at hK ⊢
                    go_simp
                    try simp only [if_pos qc.out, if_pos qd.out, if_pos qe.out, if_neg qf.out]
                    try go_simp
                    exact hK.out _ _ hw (Below.refl _ _) (⟨_, _, _, rfl, by have := hkm2.out; omega⟩)
                  exact Inv.Steps.nil
                · intro σ wx hw hd
                  obtain ⟨x56, l56, c56, e56, rfl⟩ : ∃ x l c, (σ 56) = .slice x l c ∧ l = 0 := hd 3 (some 56) (by rfl) (by rfl)
                  obtain ⟨x59, l59, c59, e59, rfl⟩ : ∃ x l c, (σ 59) = .slice x l c ∧ l = 1 := hd 6 (some 59) (by rfl) (by rfl)
                  simp only [e56, e59]
                  refine Inv.one (i := 7) (by decide) (by kernel_rfl) (by rfl) (fun K hK => ?_)
                  simp only [List.getElem_toArray, List.getElem_cons_zero, List.getElem_cons_succ, Act.put, List.setIfInBounds_toArray, List.set_cons_zero, List.set_cons_succ] at hK ⊢
                  refine wp_copy_none (.tmp 56) (.tmp 59) 23 23 rfl 49 2 Try.underlying23 hsz x56 x59 c56 1 c59 (by simp [Act.eval]) (by simp [Act.eval]) ?_
                  refine hK.out _ _ ?_
                  clear hK K hd
                  refine Inv.done (by kernel_rfl) (NoPanic.normal ?_)
                  have O6 : Hid (wx.ownsRow w.heap.size 49 2 (.slice (some ⟨gq, 0, none⟩) (m + 1) cq) (m + 1) (cells2 ((S ++ [(f, t)]).take (kp + 1) ++ S.drop kp))) := Lib.hid (by rw [hkm2.out, List.take_of_length_le (by simp; have := hm.out; omega), List.drop_of_length_le (by have := hm.out; omega), List.append_nil]; exact own_below O5.out hw)
                  have B6 := Lib.hid (Buf.then_ B5.out hw)
                  generalize wx = w6 at *
                  generalize σ 53 = v53
                  generalize σ 54 = v54
                  generalize σ 55 = v55
                  generalize σ 57 = v57
                  generalize σ 58 = v58
                  have hlen6 : (((S ++ [(f, t)]).take (kp + 1) ++ S.drop kp)).length = m + 1 := by simp; have := hm.out; omega
                  obtain ⟨p6, hp6⟩ : ∃ p, (((S ++ [(f, t)]).take (kp + 1) ++ S.drop kp))[kp]? = some p := ⟨_, List.getElem?_eq_getElem (by omega)⟩
                  obtain ⟨hz9, _, gq', egq, hgq6, _, s0, s1, s2, s3⟩ := own_get (L := (S ++ [(f, t)]).take (kp + 1) ++ S.drop kp) (n := m + 1) (show Spans w6 w.heap.size (.slice (some ⟨gq, 0, none⟩) (m + 1) cq) _ from by unfold Spans; rw [hlen6]; exact O6.out) hp6
                  cases egq
                  clear hz9 hp6 hlen6
                  have y0 := (B6.out.cell (p := ⟨g, o + kx * 2, none⟩) g7.out.2.2).trans ((F_cell.out).1)
                  have y1 := (B6.out.cell (p := ⟨g, o + kx * 2 + 1, none⟩) g7.out.2.2).trans ((F_cell.out).2)
                  have bk6 : (kp : Int) < (m : Int) + 1 := by omega
                  have OX := Lib.hid (own_put O6.out kp (f, t))
                  rw [insL_set S (f, t) kp (by have := hm.out; omega)] at OX
                  have BX := Lib.hid ((B6.out.setCell (p := ⟨gq, kp * 2, none⟩) hgqB (.int .i64 f)).setCell (p := ⟨gq, kp * 2 + 1, none⟩) hgqB (.int .i64 t))
                  have hlX : Hid ((insL S (f, t) kp).length = m + 1) := Lib.hid (by rw [insL_len S _ kp (by have := hm.out; omega), ← hm.out])
                  clear O6 B6 O5 B5
                  go_wp2_with fail
                  go_roundw
                  case rel => exact ⟨kx + 1, insL S (f, t) kp, by omega, by go_num, Lib.hid (by unfold Spans; rw [hlX.out]; exact OX.out), NI, Lib.hid BX.out⟩
                  case measure => simp [intOf]; omega
              · have qc := Lib.hid (show kp + 1 ≤ cq by omega)
                have qd := Lib.hid (show kp + 1 ≤ m + 1 by omega)
                have qe := Lib.hid (show kp ≤ m + 1 by omega)
                have qf := Lib.hid (show ¬ (m + 1 < kp) by omega)
                have qg := Lib.hid (show ¬ (cq = kp + 1) by omega)
                have qh := Lib.hid (show ¬ (cq = kp) by omega)
                refine wp_region_noPanic ?_
                refine wp_region_any (by kernel_rfl) ?_
                refine Inv.wpAny_inv (fun k => k == 7) [53, 54, 55, 56, 57, 58, 59] (fun w' => Below w5.heap.size w5 w') (fun _ w1 w2 => Below w1.heap.size w1 w2) (fun k => ([fun v_ w_ => v_ = .slice (some ⟨gq, 0, none⟩) (m + 1) cq, fun v_ w_ => v_ = .int .i64 (kp : Int), fun v_ w_ => v_ = .int .i64 ((kp : Int) + 1), fun v_ w_ => v_ = .slice (some ⟨gq, (kp + 1) * 2, none⟩) (m - kp) (cq - (kp + 1)), fun v_ w_ => v_ = .slice (some ⟨gq, 0, none⟩) (m + 1) cq, fun v_ w_ => v_ = .int .i64 (kp : Int), fun v_ w_ => v_ = .slice (some ⟨gq, kp * 2, none⟩) (m + 1 - kp) (cq - kp), fun v_ w_ => True] : List (Value → World → Prop)).getD k (fun _ _ => True)) _ (fun σ => by simp only [Inv.putAll, List.foldl_cons, List.foldl_nil, Act.put, List.setIfInBounds_toArray, List.set_cons_zero, List.set_cons_succ]; rfl) (by kernel_rfl) (by kernel_rfl) ?_ (Below.refl _ _).drew ?_ ?_ 1 #[true, true, true, true, true, true, true, false] (by kernel_rfl) (by kernel_rfl) ?_
                · intro j k v w1 w2 hjk hv hr
                  rcases k with _ | k
                  · exact hv
                  rcases k with _ | k
                  · exact hv
                  rcases k with _ | k
                  · exact hv
                  rcases k with _ | k
                  · exact hv
                  rcases k with _ | k
                  · exact hv
                  rcases k with _ | k
                  · exact hv
                  rcases k with _ | k
                  · exact hv
                  rcases k with _ | k
                  · exact hv
                  · exact hv
                · intro k t hl hd
                  rcases k with _ | k
                  · exact absurd hl (by decide +kernel)
                  rcases k with _ | k
                  · exact absurd hl (by decide +kernel)
                  rcases k with _ | k
                  · exact absurd hl (by decide +kernel)
                  rcases k with _ | k
                  · exact absurd hl (by decide +kernel)
                  rcases k with _ | k
                  · exact absurd hl (by decide +kernel)
                  rcases k with _ | k
                  · exact absurd hl (by decide +kernel)
                  rcases k with _ | k
                  · exact absurd hl (by decide +kernel)
                  rcases k with _ | k
                  · exact absurd hl (by decide +kernel)
                  · simp at hd
                · show Inv.Steps _ _ _ _ _ _ _ _ [0, 1, 2, 3, 4, 5, 6]
                  refine Inv.Steps.go (by decide) (by rfl) (fun σ wx hw hd K hK => ?_) ?_
                  · simp only [List.getElem_toArray, List.getElem_cons_zero, List.getElem_cons_succ, Act.put, List.setIfInBounds_toArray, List.set_cons_zero, List.set_cons_succ] at hK ⊢
                    go_simp
                    exact hK.out _ _ hw (Below.refl _ _) (rfl)
                  refine Inv.Steps.go (by decide) (by rfl) (fun σ wx hw hd K hK => ?_) ?_
                  · simp only [List.getElem_toArray, List.getElem_cons_zero, List.getElem_cons_succ, Act.put, List.setIfInBounds_toArray, List.set_cons_zero, List.set_cons_succ] at hK ⊢
                    go_simp
                    exact hK.out _ _ hw (Below.refl _ _) (rfl)
                  refine Inv.Steps.go (by decide) (by rfl) (fun σ wx hw hd K hK => ?_) ?_
                  · obtain e54 : (σ 54) = .int .i64 (kp : Int) := hd 1 (some 54) (by kernel_rfl) (by rfl)
                    simp only [List.getElem_toArray, List.getElem_cons_zero, List.getElem_cons_succ, Act.put, List.setIfInBounds_toArray, List.set_cons_zero, List.set_cons_succ, e54] at hK ⊢
                    go_simp
                    exact hK.out _ _ hw (Below.refl _ _) (rfl)
                  refine Inv.Steps.go (by decide) (by rfl) (fun σ wx hw hd K hK => ?_) ?_
                  · obtain e53 : (σ 53) = .slice (some ⟨gq, 0, none⟩) (m + 1) cq := hd 0 (some 53) (by kernel_rfl) (by rfl)
                    obtain e55 : (σ 55) = .int .i64 ((kp : Int) + 1) := hd 2 (some 55) (by kernel_rfl) (by rfl)
                    simp only [List.getElem_toArray, List.getElem_cons_zero, List.getElem_cons_succ, Act.put, List.setIfInBounds_toArray, List.set_cons_zero, List.set_cons_succ, e53, e55] at hK ⊢
                    go_simp
                    try simp only [if_pos qc.out, if_pos qd.out, if_pos qe.out, if_neg qf.out]
                    try go_simp
                    try simp only [if_neg qg.out, if_neg qh.out]
                    exact hK.out _ _ hw (Below.refl _ _) (rfl)
                  refine Inv.Steps.go (by decide) (by rfl) (fun σ wx hw hd K hK => ?_) ?_
                  · simp only [List.getElem_toArray, List.getElem_cons_zero, List.getElem_cons_succ, Act.put, List.setIfInBounds_toArray, List.set_cons_zero, List.set_cons_succ] at hK ⊢
                    go_simp
                    exact hK.out _ _ hw (Below.refl _ _) (rfl)
                  refine Inv.Steps.go (by decide) (by rfl) (fun σ wx hw hd K hK => ?_) ?_
                  · simp only [List.getElem_toArray, List.getElem_cons_zero, List.getElem_cons_succ, Act.put, List.setIfInBounds_toArray, List.set_cons_zero, List.set_cons_succ] at hK ⊢
                    go_simp
                    exact hK.out _ _ hw (Below.refl _ _) (rfl)
                  refine Inv.Steps.go (by decide) (by rfl) (fun σ wx hw hd K hK => ?_) ?_
                  · obtain e57 : (σ 57) = .slice (some ⟨gq, 0, none⟩) (m + 1) cq := hd 4 (some 57) (by kernel_rfl) (by rfl)
                    obtain e58 : (σ 58) = .int .i64 (kp : Int) := hd 5 (some 58) (by kernel_rfl) (by rfl)
                    simp only [List.getElem_toArray, List.getElem_cons_zero, List.getElem_cons_succ, Act.put, List.setIfInBounds_toArray, List.set_cons_zero, List.set_cons_succ, e57, e58] at hK ⊢
                    go_simp
                    try simp only [if_pos qc.out, if_pos qd.out, if_pos qe.out, if_neg qf.out]
                    try go_simp
                    try simp only [if_neg qg.out, if_neg qh.out]
                    exact hK.out _ _ hw (Below.refl _ _) (rfl)
                  exact Inv.Steps.nil
                · intro σ wx hw hd
                  obtain e56 : (σ 56) = .slice (some ⟨gq, (kp + 1) * 2, none⟩) (m - kp) (cq - (kp + 1)) := hd 3 (some 56) (by rfl) (by rfl)
                  obtain e59 : (σ 59) = .slice (some ⟨gq, kp * 2, none⟩) (m + 1 - kp) (cq - kp) := hd 6 (some 59) (by rfl) (by rfl)
                  simp only [e56, e59]
                  refine Inv.one (i := 7) (by decide) (by kernel_rfl) (by rfl) (fun K hK => ?_)
                  simp only [List.getElem_toArray, List.getElem_cons_zero, List.getElem_cons_succ, Act.put, List.setIfInBounds_toArray, List.set_cons_zero, List.set_cons_succ] at hK ⊢
                  obtain ⟨cur, hcur, cfit, clen, csrc, cown⟩ := own_move hm.out (own_below O5.out hw) kp hkm
                  refine wp_copy_rowk (.tmp 56) (.tmp 59) 23 23 rfl 49 2 Try.underlying23 hsz gq ((kp + 1) * 2) (m - kp) (cq - (kp + 1)) ⟨gq, kp * 2, none⟩ (m + 1 - kp) (cq - kp) (by simp [Act.eval]) (by simp [Act.eval]) cur _ hcur (cells2 (S.drop kp)) (by rw [clen]; congr 1; show m - kp = min (m + 1 - kp) (m - kp); omega) csrc cfit (cells2_one _) ?_
                  refine hK.out _ _ ?_
                  clear hK K hd
                  refine Inv.done (by kernel_rfl) (NoPanic.normal ?_)
                  have O6 := Lib.hid cown
                  have B6 := Lib.hid (Mid.below_row (Buf.then_ B5.out hw) gq (cur.toList.take ((kp + 1) * 2) ++ cells2 (S.drop kp) ++ cur.toList.drop ((kp + 1) * 2 + (cells2 (S.drop kp)).length)).toArray hgqB)
                  generalize (wx.setRow gq (cur.toList.take ((kp + 1) * 2) ++ cells2 (S.drop kp) ++ cur.toList.drop ((kp + 1) * 2 + (cells2 (S.drop kp)).length)).toArray) = w6 at *
                  clear hcur cfit clen csrc cown hw
                  generalize σ 53 = v53
                  generalize σ 54 = v54
                  generalize σ 55 = v55
                  generalize σ 57 = v57
                  generalize σ 58 = v58
                  have hlen6 : (((S ++ [(f, t)]).take (kp + 1) ++ S.drop kp)).length = m + 1 := by simp; have := hm.out; omega
                  obtain ⟨p6, hp6⟩ : ∃ p, (((S ++ [(f, t)]).take (kp + 1) ++ S.drop kp))[kp]? = some p := ⟨_, List.getElem?_eq_getElem (by omega)⟩
                  obtain ⟨hz9, _, gq', egq, hgq6, _, s0, s1, s2, s3⟩ := own_get (L := (S ++ [(f, t)]).take (kp + 1) ++ S.drop kp) (n := m + 1) (show Spans w6 w.heap.size (.slice (some ⟨gq, 0, none⟩) (m + 1) cq) _ from by unfold Spans; rw [hlen6]; exact O6.out) hp6
                  cases egq
                  clear hz9 hp6 hlen6
                  have y0 := (B6.out.cell (p := ⟨g, o + kx * 2, none⟩) g7.out.2.2).trans ((F_cell.out).1)
                  have y1 := (B6.out.cell (p := ⟨g, o + kx * 2 + 1, none⟩) g7.out.2.2).trans ((F_cell.out).2)
                  have bk6 : (kp : Int) < (m : Int) + 1 := by omega
                  have OX := Lib.hid (own_put O6.out kp (f, t))
                  rw [insL_set S (f, t) kp (by have := hm.out; omega)] at OX
                  have BX := Lib.hid ((B6.out.setCell (p := ⟨gq, kp * 2, none⟩) hgqB (.int .i64 f)).setCell (p := ⟨gq, kp * 2 + 1, none⟩) hgqB (.int .i64 t))
                  have hlX : Hid ((insL S (f, t) kp).length = m + 1) := Lib.hid (by rw [insL_len S _ kp (by have := hm.out; omega), ← hm.out])
                  clear O6 B6 O5 B5
                  go_wp2_with fail
                  go_roundw
                  case rel => exact ⟨kx + 1, insL S (f, t) kp, by omega, by go_num, Lib.hid (by unfold Spans; rw [hlX.out]; exact OX.out), NI, Lib.hid BX.out⟩
                  case measure => simp [intOf]; omega
      · have dft : decide (t ≤ f) = true := decide_eq_true (by omega)
        have NS := Lib.hid (HN.out.skip hp'.out (by simp only; omega))
        clear HN
        go_wp2_with fail
        go_quiet (fail)
        go_wp2_with fail
        go_roundw
        case rel => exact ⟨kx + 1, S, by omega, by go_num, Lib.hid (by unfold Spans; rw [← hm.out]; repeat (first | exact O.out | refine own_below ?_ (Buf.below_drewN (Below.refl _ _) _))), NS, Lib.hid (by repeat (first | exact HB.out | refine Buf.below_drewN ?_ _))⟩
        case measure => simp [intOf]; omega
    · obtain rfl : kx = n := by omega
      obtain ⟨w2, hw2⟩ : ∃ z, z = wr := ⟨_, rfl⟩
      subst hw2
      have hm9 : m ≤ 200 := by omega
      have O' := Lib.hid (show Spans w2 w.heap.size (.slice sa m sc) S from by unfold Spans; rw [← hm.out]; exact O.out)
      have FS := Lib.hid (fun (j : Nat) (p : Int × Int) (hj : S[j]? = some p) => own_get O'.out hj)
      have B0 := Lib.hid (Below.refl w2.heap.size w2)
      have Z0 : Hid (Spans w2 w2.heap.size (.slice none 0 0) []) := Lib.hid (World.ownsRow_nil _ _ _ _)
      have M0 := Lib.hid (Ms.start S)
      clear hlt hk O O'
      go_wp2_with fail
      go_loopw [6, 7] (fun s i wr => ∃ (kz : Nat) (N : LP), kz ≤ m ∧ i = .int .i64 kz ∧ Hid (Spans wr w2.heap.size s N) ∧ Hid (Ms S kz N) ∧ Hid (Below w2.heap.size w2 wr)) (fun _ i _ => m - (intOf i).toNat)
      case atStart => exact ⟨0, [], Nat.zero_le _, rfl, Z0, M0, B0⟩
      case round =>
        clear B0 Z0 M0
        obtain ⟨kz, N, hkz, rfl, OT, HM, HC⟩ := hrel
        obtain ⟨ta, tc, rfl⟩ := own_len OT.out
        obtain ⟨nn, hnn⟩ : ∃ nn, nn = N.length := ⟨_, rfl⟩
        have hnk : nn ≤ kz := by rw [hnn]; exact HM.out.len
        unfold Spans at OT
        rw [← hnn] at OT ⊢
        have O9 := Lib.hid (show Spans wr w2.heap.size (.slice ta nn tc) N from by unfold Spans; rw [← hnn]; exact OT.out)
        replace hnn := Lib.hid hnn
        by_cases hlt : kz < m
        · obtain ⟨⟨f, t⟩, hp⟩ : ∃ p, S[kz]? = some p := ⟨S[kz]'(by rw [← hm.out]; exact hlt), List.getElem?_eq_getElem _⟩
          obtain ⟨hz1_, hz2_, g, rfl, hg, hgB, q0, q1, _⟩ := FS.out _ _ hp
          have k0 := (HC.out.cell (p := ⟨g, _, none⟩) hg).trans q0
          have k1 := (HC.out.cell (p := ⟨g, _, none⟩) hg).trans q1
          dsimp only at k0 k1
          have b1 : (kz : Int) < (m : Int) := by omega
          have ft : f < t := HN.out.one _ (List.mem_of_getElem? hp)
          have MS := Lib.hid (HM.out.add HN.out hp)
          replace ft := Lib.hid ft
          clear q0 q1 hp hz1_ HM
          rcases snoc_cases N with rfl | ⟨u, ⟨p1, p2⟩, rfl⟩
          · have hn0 := Lib.hid (show nn = 0 from by rw [hnn.out]; rfl)
            obtain ⟨N, hN⟩ : ∃ N : LP, N = [] := ⟨_, rfl⟩
            rw [← hN] at hnn OT MS O9
            have AD : Hid (addL N (f, t) = N ++ [(f, t)]) := Lib.hid (by rw [hN]; exact addL_nil _ ft.out)
            replace hN := Lib.hid hN
            have d0 : decide ((0 : Int) < (nn : Int)) = false := decide_eq_false (by have := hn0.out; omega)
            have d0n : decide (0 < nn) = false := decide_eq_false (by have := hn0.out; omega)
            have hn9 : nn ≤ 200 := by rw [hn0.out]; omega
            clear hnk
            go_wp2_with fail
            go_quiet (fail)
            go_upto_region 19 with fail
            clear d0 d0n
            obtain ⟨wp, hwp⟩ : ∃ wp, wp = wr.drewN nq := ⟨_, rfl⟩
            have bp := Lib.hid (show Below wr.heap.size wr wp by rw [hwp]; exact Buf.below_drewN (Below.refl _ _) _)
            have j0 : wp.cell? ⟨g, kz * 2, none⟩ = some (.int .i64 f) := by rw [hwp]; exact k0
            have j1 : wp.cell? ⟨g, kz * 2 + 1, none⟩ = some (.int .i64 t) := by rw [hwp]; exact k1
            rw [← hwp]
            clear hwp k0 k1
            have hb3 := Lib.hid (heap_alloc_new wp (.cells #[.int .i64 f, .int .i64 t] 49))
            have O3 := Lib.hid (own_below (own_below OT.out bp.out) (new_block (w := wp) (.cells #[.int .i64 f, .int .i64 t] 49)))
            have one : Hid (∀ u ∈ [Value.int .i64 f, .int .i64 t], u.oneCell' = true) := Lib.hid (by intro u hu; simp at hu; rcases hu with rfl | rfl <;> rfl)
            have hB3 := Lib.hid (show w2.heap.size ≤ (wp.alloc (.cells #[.int .i64 f, .int .i64 t] 49)).heap.size by have := HC.out.size; have := bp.out.size; simp; omega)
            go_wp2_with (at_builtin; refine wpList_append_lies _ rfl (.tmp 109) (.tmp 114) 23 rfl w2.heap.size 49 i0 (.agg #[.int .i64 0, .int .i64 0]) 2 16 Try.underlying23 hi hz0 hz1 hz2 rfl (by decide) _ nn (cells2 N) rfl O3.out ⟨wp.heap.size, 0, none⟩ 1 1 [.int .i64 f, .int .i64 t] rfl rfl (World.news_of_block hb3.out) one.out (by decide) (by unfold maxLen; omega) (by omega) hB3.out _ rfl ?_; intro gq cq w5 O2 G2 hg2 hl2)
            have O5 := Lib.hid (show Spans w5 w2.heap.size (.slice (some ⟨gq, 0, none⟩) (nn + 1) cq) (addL N (f, t)) by
              unfold Spans
              rw [AD.out, cells2_snoc, List.length_append, ← hnn.out]
              exact O2)
            have B5 := Lib.hid (show Below w2.heap.size w2 w5 from (Buf.then_ (Buf.then_ HC.out bp.out) (new_block (w := wp) (.cells #[.int .i64 f, .int .i64 t] 49))).grown G2 (by have := HC.out.size; have := bp.out.size; simp; omega) (fun b hb => (O3.out.lt b hb).1))
            clear O2 G2 hg2 hl2 O3 hb3 hB3 one j0 j1 bp OT HC
            go_roundw
            case rel => exact ⟨kz + 1, addL N (f, t), by omega, by go_num, O5, MS, B5⟩
            case measure => simp [intOf]; omega
          · obtain ⟨N, hN⟩ : ∃ N : LP, N = u ++ [(p1, p2)] := ⟨_, rfl⟩
            obtain ⟨k1', hk1⟩ : ∃ k1', k1' = u.length := ⟨_, rfl⟩
            have hnk1 : nn = k1' + 1 := by rw [hnn.out, hk1]; simp
            have hx : N[k1']? = some (p1, p2) := by rw [hN, hk1]; simp
            rw [← hN] at hnn OT MS O9
            obtain ⟨hz1_, nsc, gs, hta, hgs, hgsB, _, c3, _, c4⟩ := own_get O9.out hx
            subst hta
            dsimp only at c3 c4
            clear hx hz1_
            have e1 : (nn : Int) - 1 = (k1' : Int) := by omega
            have bk : (k1' : Int) < (nn : Int) := by omega
            have hn9 : nn ≤ 200 := by omega
            have d0 : decide ((0 : Int) < (nn : Int)) = true := decide_eq_true (by omega)
            have d0n : decide (0 < nn) = true := decide_eq_true (by omega)
            replace hnk1 := Lib.hid hnk1
            by_cases fx : f ≤ p2
            · have d1 : decide (f ≤ p2) = true := decide_eq_true fx
              have AD := Lib.hid (addL_join u (p1, p2) (f, t) ft.out fx)
              rw [← hN] at AD
              replace hN := Lib.hid hN
              replace hk1 := Lib.hid hk1
              go_wp2_with fail
              go_quiet (fail)
              go_upto_region 18 with fail
              obtain ⟨wp, hwp⟩ : ∃ wp, wp = wr.drewN nq := ⟨_, rfl⟩
              have bp := Lib.hid (show Below wr.heap.size wr wp by rw [hwp]; exact Buf.below_drewN (Below.refl _ _) _)
              have j1 : wp.cell? ⟨g, kz * 2 + 1, none⟩ = some (.int .i64 t) := by rw [hwp]; exact k1
              have j3 : wp.cell? ⟨gs, k1' * 2 + 1, none⟩ = some (.int .i64 p2) := by rw [hwp]; exact c3
              have Op := Lib.hid (own_below OT.out bp.out)
              have fz : wp.frozen? ⟨gs, k1' * 2 + 1, none⟩ = false := World.ownsRow.frozenAt Op.out _
              rw [← hwp]
              clear hwp k0 k1 c3 c4 d0 d0n d1
              have STO := Lib.hid (World.ownsRow.stored Op.out (k1' * 2 + 1) (.int .i64 (max p2 t)))
              rw [hN.out, set_last u (p1, p2) (max p2 t) k1' hk1.out] at STO
              have AD2 := AD.out
              rw [← AD2] at STO
              have hlA : Hid ((addL N (f, t)).length = nn) := Lib.hid (by rw [AD2, List.length_append, hnk1.out, hk1.out]; rfl)
              have WB := Lib.hid ((Buf.then_ HC.out bp.out).setCell (p := ⟨gs, k1' * 2 + 1, none⟩) hgsB (.int .i64 (max p2 t)))
              clear AD2 AD OT O9 Op
              go_region
              all_goals go_wp2_with fail
              all_goals go_roundw
              all_goals first
                | (case rel => exact ⟨kz + 1, addL N (f, t), by omega, by go_num, Lib.hid (by unfold Spans; rw [hlA.out]; exact own_below STO.out.1 (by repeat (first | exact Below.refl _ _ | refine Below.drew ?_))), MS, Lib.hid (by repeat (first | exact WB.out | refine Below.drew ?_))⟩)
                | (case measure => simp [intOf]; omega)
            · have d1 : decide (f ≤ p2) = false := decide_eq_false fx
              have AD := Lib.hid (addL_new u (p1, p2) (f, t) ft.out (by simp only; omega))
              rw [← hN] at AD
              replace hN := Lib.hid hN
              replace hk1 := Lib.hid hk1
              clear hnk
              go_wp2_with fail
              go_quiet (fail)
              go_upto_region 19 with fail
              clear d0 d0n d1 c3 c4 e1 bk fx
              obtain ⟨wp, hwp⟩ : ∃ wp, wp = wr.drewN nq := ⟨_, rfl⟩
              have bp := Lib.hid (show Below wr.heap.size wr wp by rw [hwp]; exact Buf.below_drewN (Below.refl _ _) _)
              have j0 : wp.cell? ⟨g, kz * 2, none⟩ = some (.int .i64 f) := by rw [hwp]; exact k0
              have j1 : wp.cell? ⟨g, kz * 2 + 1, none⟩ = some (.int .i64 t) := by rw [hwp]; exact k1
              rw [← hwp]
              clear hwp k0 k1
              have hb3 := Lib.hid (heap_alloc_new wp (.cells #[.int .i64 f, .int .i64 t] 49))
              have O3 := Lib.hid (own_below (own_below OT.out bp.out) (new_block (w := wp) (.cells #[.int .i64 f, .int .i64 t] 49)))
              have one : Hid (∀ u ∈ [Value.int .i64 f, .int .i64 t], u.oneCell' = true) := Lib.hid (by intro u hu; simp at hu; rcases hu with rfl | rfl <;> rfl)
              have hB3 := Lib.hid (show w2.heap.size ≤ (wp.alloc (.cells #[.int .i64 f, .int .i64 t] 49)).heap.size by have := HC.out.size; have := bp.out.size; simp; omega)
              go_wp2_with (at_builtin; refine wpList_append_lies _ rfl (.tmp 109) (.tmp 114) 23 rfl w2.heap.size 49 i0 (.agg #[.int .i64 0, .int .i64 0]) 2 16 Try.underlying23 hi hz0 hz1 hz2 rfl (by decide) _ nn (cells2 N) rfl O3.out ⟨wp.heap.size, 0, none⟩ 1 1 [.int .i64 f, .int .i64 t] rfl rfl (World.news_of_block hb3.out) one.out (by decide) (by unfold maxLen; omega) (by omega) hB3.out _ rfl ?_; intro gq cq w5 O2 G2 hg2 hl2)
              have O5 := Lib.hid (show Spans w5 w2.heap.size (.slice (some ⟨gq, 0, none⟩) (nn + 1) cq) (addL N (f, t)) by
                unfold Spans
                rw [AD.out, cells2_snoc, List.length_append, ← hnn.out]
                exact O2)
              have B5 := Lib.hid (show Below w2.heap.size w2 w5 from (Buf.then_ (Buf.then_ HC.out bp.out) (new_block (w := wp) (.cells #[.int .i64 f, .int .i64 t] 49))).grown G2 (by have := HC.out.size; have := bp.out.size; simp; omega) (fun b hb => (O3.out.lt b hb).1))
              clear O2 G2 hg2 hl2 O3 hb3 hB3 one j0 j1 bp OT HC
              go_roundw
              case rel => exact ⟨kz + 1, addL N (f, t), by omega, by go_num, O5, MS, B5⟩
              case measure => simp [intOf]; omega
        · obtain rfl : kz = m := by omega
          have RX := HM.out.is
          rw [take_all S kz (by rw [← hm.out]; exact Nat.le_refl _)] at RX
          have RY := RX.congr (g := hasB L) (fun x => by rw [HN.out.has, take_all L kx (by rw [← hn.out]; exact Nat.le_refl _)])
          go_wp2_with fail
          go_ret
          refine ⟨⟨_, N, rfl, own_mono (B := w2.heap.size) O9.out HB.out.size, RY, ?_⟩, Buf.then_ HB.out HC.out⟩
          have := hnn.out
          omega
end Spn
end Go.Proofs.Ytfmhfhggogjbkaa
