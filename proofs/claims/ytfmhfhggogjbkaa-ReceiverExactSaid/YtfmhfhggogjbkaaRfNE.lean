/- RfNE: texts joined. -/
import Derived.Test.YtfmhfhggogjbkaaRfNP
import Derived.Test.YtfmhfhggogjbkaaSpnEI
import Derived.Test.YtfmhfhggogjbkaaInv
import Derived.Laws.CopyOwn
import Derived.Laws.NewBlocks
import Derived.Deep.AppendLies
import Derived.Deep.DeepCutAuto
import Derived.Test.YtfmhfhggogjbkaaRfEMG
import Derived.Test.YtfmhfhggogjbkaaRfM
import Derived.Test.YtfmhfhggogjbkaaRcvAE
import Derived.Lib.MinMax
import Derived.Deep.RegionHeld3
/- The reference's Normal, near and Length at sets that are canonical. -/
set_option linter.unusedVariables false
set_option linter.unusedSimpArgs false
namespace Go.Proofs.Ytfmhfhggogjbkaa
open Go.RowKit Dice
namespace Spn
open Sp (cells2 cells2_snoc cells2_get Spans own_kept own_below own_mono own_shape)
set_option maxHeartbeats 4000000 in
set_option maxRecDepth 100000 in
theorem refnormal_long {w : World} {v : Value} {L : LP} (h : Its w v L) (hC : Canon L) (h9 : L.length ≤ 20000) :
    Calls Try.prog 23 #[v] w fun e w' => (∃ r, e = .returned r ∧ Spans w' w.heap.size r L) ∧ Below w.heap.size w w' := by
  obtain ⟨i0, hi, hz0, hz1, hz2⟩ := info_get infoS
  have hsz : (Try.prog.info? 49).map (·.size) = some 2 := by rw [hi]; simp [hz1]
  obtain ⟨ad, c, rfl, hc, hf⟩ := its_form h
  obtain ⟨n, hn⟩ : ∃ n, n = L.length := ⟨_, rfl⟩
  rw [← hn] at hc h9 ⊢
  replace hn := Lib.hid hn
  have F := Lib.hid hf
  have CC := Lib.hid hC
  have W0 := Lib.hid (Below.refl w.heap.size w)
  have O0 : Hid (Spans w w.heap.size (.slice none 0 0) (L.take 0)) := Lib.hid (World.ownsRow_nil _ _ _ _)
  clear h hf hC
  go_enter Try.func23, Try.ntmps23
  go_wp2_with fail
  go_loopw [3, 4] (fun s i wr => ∃ kx : Nat, kx ≤ n ∧ i = .int .i64 kx ∧ Hid (Spans wr w.heap.size s (L.take kx)) ∧ Hid (Below w.heap.size w wr)) (fun _ i _ => n - (intOf i).toNat)
  case atStart => exact ⟨0, Nat.zero_le _, rfl, O0, W0⟩
  case round =>
    clear W0 O0
    obtain ⟨kx, hk, rfl, O, HB⟩ := hrel
    obtain ⟨sa, sc, rfl⟩ := own_len O.out
    have htk : (L.take kx).length = kx := by rw [List.length_take, ← hn.out]; omega
    rw [htk] at O
    try rw [htk]
    replace htk := Lib.hid htk
    by_cases hlt : kx < n
    · obtain ⟨⟨f, t⟩, hp⟩ : ∃ p, L[kx]? = some p := ⟨L[kx]'(by rw [← hn.out]; exact hlt), List.getElem?_eq_getElem _⟩
      have ft := CC.out.at hp
      simp only at ft
      obtain ⟨g, rfl, hg, q0, q1⟩ := F.out kx _ hp
      have k0 := (HB.out.cell (p := ⟨g, _, none⟩) hg).trans q0
      have k1 := (HB.out.cell (p := ⟨g, _, none⟩) hg).trans q1
      dsimp only at k0 k1
      have b1 : (kx : Int) < n := by omega
      have hp' := Lib.hid hp
      have PRE : Hid (∀ k1 : Nat, k1 + 1 = kx → ∃ x gs, sa = some ⟨gs, 0, none⟩ ∧ wr.cell? ⟨gs, k1 * 2, none⟩ = some (.int .i64 x) ∧ x < f ∧ kx ≤ sc) := Lib.hid fun k1 he => by
        obtain ⟨⟨x, y⟩, hx⟩ : ∃ p, L[k1]? = some p := ⟨L[k1]'(by rw [← hn.out]; omega), List.getElem?_eq_getElem _⟩
        have hx2 : (L.take kx)[k1]? = some (x, y) := by rw [List.getElem?_take, if_pos (by omega)]; exact hx
        obtain ⟨_, h2, gs, e, _, _, h4, _⟩ := own_get O.out hx2
        have h5 := CC.out.get (show k1 < kx by omega) hx hp
        have h6 := CC.out.at hx
        simp only at h5 h6
        exact ⟨x, gs, e, h4, by omega, by omega⟩
      clear q0 q1 hp
      go_wp2_with fail
      go_quiet (fail)
      go_wp2_with fail
      obtain ⟨wo, hwo⟩ : ∃ wo, wo = wr := ⟨_, rfl⟩
      subst hwo
      go_loopw [5] (fun v5 wr => v5 = .int .i64 kx ∧ Hid (Below wo.heap.size wo wr)) (fun _ _ => 0)
      case atStart => exact ⟨rfl, Lib.hid (by repeat (first | exact Below.refl _ _ | refine Buf.below_drewN ?_ _))⟩
      case round =>
        obtain ⟨rfl, hb1⟩ := hrel
        rcases Nat.eq_zero_or_pos kx with hk0 | hk0
        · have d0 : decide ((0 : Int) < (kx : Int)) = false := decide_eq_false (by omega)
          have d0n : decide (0 < kx) = false := decide_eq_false (by omega)
          have kk0 := (hb1.out.cell (p := ⟨g, _, none⟩) (World.block_lt_of_cell? _ _ k0)).trans k0
          have kk1 := (hb1.out.cell (p := ⟨g, _, none⟩) (World.block_lt_of_cell? _ _ k1)).trans k1
          replace hk0 := Lib.hid hk0
          go_wp2_with fail
          go_quiet (fail)
          go_upto_region 9 with fail
          clear d0 d0n
          obtain ⟨wp, hwp⟩ : ∃ wp, wp = wr.drewN nq := ⟨_, rfl⟩
          have bp := Lib.hid (show Below wo.heap.size wo wp by rw [hwp]; exact Buf.below_drewN hb1.out _)
          have j0 : wp.cell? ⟨g, kx * 2, none⟩ = some (.int .i64 f) := by rw [hwp]; exact kk0
          have j1 : wp.cell? ⟨g, kx * 2 + 1, none⟩ = some (.int .i64 t) := by rw [hwp]; exact kk1
          rw [← hwp]
          clear hwp kk0 kk1 k0 k1 hb1 PRE
          have hb3 := Lib.hid (heap_alloc_new wp (.cells #[.int .i64 f, .int .i64 t] 49))
          have O3 := Lib.hid (own_below (own_below O.out bp.out) (new_block (w := wp) (.cells #[.int .i64 f, .int .i64 t] 49)))
          unfold Spans at O3
          rw [htk.out] at O3
          have one : Hid (∀ u ∈ [Value.int .i64 f, .int .i64 t], u.oneCell' = true) := Lib.hid (by intro u hu; simp at hu; rcases hu with rfl | rfl <;> rfl)
          have hB3 := Lib.hid (show w.heap.size ≤ (wp.alloc (.cells #[.int .i64 f, .int .i64 t] 49)).heap.size by have := HB.out.size; have := bp.out.size; simp; omega)
          go_upto_region 10 with (at_builtin; refine wpList_append_lies _ rfl (.tmp 46) (.tmp 51) 23 rfl w.heap.size 49 i0 (.agg #[.int .i64 0, .int .i64 0]) 2 16 Try.underlying23 hi hz0 hz1 hz2 rfl (by decide) _ kx (cells2 (L.take kx)) rfl O3.out ⟨wp.heap.size, 0, none⟩ 1 1 [.int .i64 f, .int .i64 t] rfl rfl (World.news_of_block hb3.out) one.out (by decide) (by unfold maxLen; omega) (by omega) hB3.out _ rfl ?_; intro gq cq w5 O2 G2 hg2 hl2)
          have O5 := Lib.hid (show Spans w5 w.heap.size (.slice (some ⟨gq, 0, none⟩) (kx + 1) cq) (L.take (kx + 1)) by
            unfold Spans
            rw [take_snoc_lp hp'.out, cells2_snoc, List.length_append, htk.out]
            exact O2)
          have B5 := Lib.hid (show Below w.heap.size w w5 from (Buf.then_ (Buf.then_ HB.out bp.out) (new_block (w := wp) (.cells #[.int .i64 f, .int .i64 t] 49))).grown G2 (by have := HB.out.size; have := bp.out.size; simp; omega) (fun b hb => (O3.out.lt b hb).1))
          obtain ⟨hq0, cqk, gq', egq, hgq5, hgqB, z0, z1, z2, z3⟩ := own_get O5.out (show (L.take (kx + 1))[kx]? = some (f, t) by rw [List.getElem?_take, if_pos (by omega)]; exact hp'.out)
          cases egq
          clear hq0
          have qc := Lib.hid (show kx + 1 ≤ cq from cqk)
          have qd := Lib.hid (show kx + 1 ≤ kx + 1 from Nat.le_refl _)
          have qe := Lib.hid (show kx ≤ kx + 1 from Nat.le_succ _)
          have wk : IntKind.i64.wrap ((kx : Int) + 1) = (kx : Int) + 1 := IntWalk.i64_in _ (by omega)
          have ck1 : (kx : Int) + 1 ≤ (cq : Int) := by omega
          have ck2 : (kx : Int) ≤ (cq : Int) := by omega
          have ck3 : (kx : Int) ≤ (kx : Int) + 1 := by omega
          have ck4 : kx ≤ kx + 1 := by omega
          have ck5 : kx + 1 ≤ cq := by omega
          have ck6 : ((kx + 1 : Nat) : Int) = (kx : Int) + 1 := by omega
          have g7 := Lib.hid (show w5.cell? ⟨g, kx * 2, none⟩ = some (.int .i64 f) ∧ w5.cell? ⟨g, kx * 2 + 1, none⟩ = some (.int .i64 t) from by
            obtain ⟨gx, ex, hgx, y0, y1⟩ := F.out kx _ hp'.out
            cases ex
            exact ⟨(B5.out.cell (p := ⟨g, _, none⟩) hgx).trans y0, (B5.out.cell (p := ⟨g, _, none⟩) hgx).trans y1⟩)
          clear O2 G2 hg2 hl2 O3 hb3 hB3 one j0 j1 bp HB O
          replace z0 := Lib.hid z0
          replace z1 := Lib.hid z1
          replace z2 := Lib.hid z2
          replace z3 := Lib.hid z3
          refine wp_region_noPanic ?_
          refine wp_region_any (by kernel_rfl) ?_
          refine Inv.wpAny_inv (fun k => false) [53, 54, 55, 56, 57, 58, 59, 60] (fun w' => Below w5.heap.size w5 w') (fun _ w1 w2 => Below w1.heap.size w1 w2) (fun k => ([fun v_ w_ => v_ = .slice (some ⟨gq, 0, none⟩) (kx + 1) cq, fun v_ w_ => v_ = .int .i64 (kx : Int), fun v_ w_ => v_ = .int .i64 ((kx : Int) + 1), fun v_ w_ => ∃ x c, v_ = .slice x 0 c, fun v_ w_ => v_ = .slice (some ⟨gq, 0, none⟩) (kx + 1) cq, fun v_ w_ => v_ = .int .i64 (kx : Int), fun v_ w_ => ∃ x c, v_ = .slice x 1 c, fun v_ w_ => v_ = .int .i64 0] : List (Value → World → Prop)).getD k (fun _ _ => True)) _ (fun σ => by simp only [Inv.putAll, List.foldl_cons, List.foldl_nil, Act.put, List.setIfInBounds_toArray, List.set_cons_zero, List.set_cons_succ]; rfl) (by kernel_rfl) (by kernel_rfl) ?_ (Below.refl _ _).drew ?_ ?_ 0 #[true, true, true, true, true, true, true, true] (by kernel_rfl) (by kernel_rfl) ?_
          · intro j k v w1 w2 hjk hv hr
            rcases k with _ | k
            · exact hv
            rcases k with _ | k
            · exact hv
            rcases k with _ | k
            · exact hv
            rcases k with _ | k
            · exact hv
            rcases k with _ | k
            · exact hv
            rcases k with _ | k
            · exact hv
            rcases k with _ | k
            · exact hv
            rcases k with _ | k
            · exact hv
            · exact hv
          · intro k t hl hd
            rcases k with _ | k
            · exact absurd hl (by decide +kernel)
            rcases k with _ | k
            · exact absurd hl (by decide +kernel)
            rcases k with _ | k
            · exact absurd hl (by decide +kernel)
            rcases k with _ | k
            · exact absurd hl (by decide +kernel)
            rcases k with _ | k
            · exact absurd hl (by decide +kernel)
            rcases k with _ | k
            · exact absurd hl (by decide +kernel)
            rcases k with _ | k
            · exact absurd hl (by decide +kernel)
            rcases k with _ | k
            · exact absurd hl (by decide +kernel)
            · simp at hd
          · show Inv.Steps _ _ _ _ _ _ _ _ [0, 1, 2, 3, 4, 5, 6, 7]
            refine Inv.Steps.go (by decide) (by rfl) (fun σ wx hw hd K hK => ?_) ?_
            · simp only [List.getElem_toArray, List.getElem_cons_zero, List.getElem_cons_succ, Act.put, List.setIfInBounds_toArray, List.set_cons_zero, List.set_cons_succ] at hK ⊢
              go_simp
              exact hK.out _ _ hw (Below.refl _ _) (rfl)
            refine Inv.Steps.go (by decide) (by rfl) (fun σ wx hw hd K hK => ?_) ?_
            · simp only [List.getElem_toArray, List.getElem_cons_zero, List.getElem_cons_succ, Act.put, List.setIfInBounds_toArray, List.set_cons_zero, List.set_cons_succ] at hK ⊢
              go_simp
              exact hK.out _ _ hw (Below.refl _ _) (rfl)
            refine Inv.Steps.go (by decide) (by rfl) (fun σ wx hw hd K hK => ?_) ?_
            · obtain e54 : (σ 54) = .int .i64 (kx : Int) := hd 1 (some 54) (by kernel_rfl) (by rfl)
              simp only [List.getElem_toArray, List.getElem_cons_zero, List.getElem_cons_succ, Act.put, List.setIfInBounds_toArray, List.set_cons_zero, List.set_cons_succ, e54] at hK ⊢
              go_simp
              exact hK.out _ _ hw (Below.refl _ _) (rfl)
            refine Inv.Steps.go (by decide) (by rfl) (fun σ wx hw hd K hK => ?_) ?_
            · obtain e53 : (σ 53) = .slice (some ⟨gq, 0, none⟩) (kx + 1) cq := hd 0 (some 53) (by kernel_rfl) (by rfl)
              obtain e55 : (σ 55) = .int .i64 ((kx : Int) + 1) := hd 2 (some 55) (by kernel_rfl) (by rfl)
              simp only [List.getElem_toArray, List.getElem_cons_zero, List.getElem_cons_succ, Act.put, List.setIfInBounds_toArray, List.set_cons_zero, List.set_cons_succ, e53, e55] at hK ⊢
              go_simp
              try simp only [if_pos qc.out, if_pos qd.out, if_pos qe.out]
              try go_simp
              exact hK.out _ _ hw (Below.refl _ _) (⟨_, _, rfl⟩)
            refine Inv.Steps.go (by decide) (by rfl) (fun σ wx hw hd K hK => ?_) ?_
            · simp only [List.getElem_toArray, List.getElem_cons_zero, List.getElem_cons_succ, Act.put, List.setIfInBounds_toArray, List.set_cons_zero, List.set_cons_succ] at hK ⊢
              go_simp
              exact hK.out _ _ hw (Below.refl _ _) (rfl)
            refine Inv.Steps.go (by decide) (by rfl) (fun σ wx hw hd K hK => ?_) ?_
            · simp only [List.getElem_toArray, List.getElem_cons_zero, List.getElem_cons_succ, Act.put, List.setIfInBounds_toArray, List.set_cons_zero, List.set_cons_succ] at hK ⊢
              go_simp
              exact hK.out _ _ hw (Below.refl _ _) (rfl)
            refine Inv.Steps.go (by decide) (by rfl) (fun σ wx hw hd K hK => ?_) ?_
            · obtain e57 : (σ 57) = .slice (some ⟨gq, 0, none⟩) (kx + 1) cq := hd 4 (some 57) (by kernel_rfl) (by rfl)
              obtain e58 : (σ 58) = .int .i64 (kx : Int) := hd 5 (some 58) (by kernel_rfl) (by rfl)
              simp only [List.getElem_toArray, List.getElem_cons_zero, List.getElem_cons_succ, Act.put, List.setIfInBounds_toArray, List.set_cons_zero, List.set_cons_succ, e57, e58] at hK ⊢
              go_simp
              try simp only [if_pos qc.out, if_pos qd.out, if_pos qe.out]
              try go_simp
              exact hK.out _ _ hw (Below.refl _ _) (⟨_, _, rfl⟩)
            refine Inv.Steps.go (by decide) (by rfl) (fun σ wx hw hd K hK => ?_) ?_
            · obtain ⟨x56, c56, e56⟩ : ∃ x c, (σ 56) = .slice x 0 c := hd 3 (some 56) (by kernel_rfl) (by rfl)
              obtain ⟨x59, c59, e59⟩ : ∃ x c, (σ 59) = .slice x 1 c := hd 6 (some 59) (by kernel_rfl) (by rfl)
              simp only [List.getElem_toArray, List.getElem_cons_zero, List.getElem_cons_succ, Act.put, List.setIfInBounds_toArray, List.set_cons_zero, List.set_cons_succ, e56, e59] at hK ⊢
              refine wp_copy_none (.tmp 56) (.tmp 59) 23 23 rfl 49 2 Try.underlying23 hsz x56 x59 c56 1 c59 (by simp [Act.eval]) (by simp [Act.eval]) ?_
              exact hK.out _ _ hw (Below.refl _ _) (rfl)
            exact Inv.Steps.nil
          · intro σ wx hw hd
            have HW := Lib.hid hw
            clear hd hw
            refine Inv.done (by kernel_rfl) (NoPanic.normal ?_)
            generalize σ 53 = v53
            generalize σ 54 = v54
            generalize σ 55 = v55
            generalize σ 56 = v56
            generalize σ 57 = v57
            generalize σ 58 = v58
            generalize σ 59 = v59
            generalize σ 60 = v60
            have y0 := (HW.out.cell (p := ⟨g, _, none⟩) (World.block_lt_of_cell? _ _ g7.out.1)).trans g7.out.1
            have y1 := (HW.out.cell (p := ⟨g, _, none⟩) (World.block_lt_of_cell? _ _ g7.out.2)).trans g7.out.2
            have s0 := (HW.out.cell (p := ⟨gq, _, none⟩) hgq5).trans z0.out
            have s1 := (HW.out.cell (p := ⟨gq, _, none⟩) hgq5).trans z1.out
            have s2 := (World.frozen?_of_block (a := ⟨gq, kx * 2, none⟩) (HW.out.block gq hgq5)).trans z2.out
            have s3 := (World.frozen?_of_block (a := ⟨gq, kx * 2 + 1, none⟩) (HW.out.block gq hgq5)).trans z3.out
            have I0 := Lib.hid (setCell_id s0)
            have I1 := Lib.hid (setCell_id s1)
            have OX := Lib.hid (own_below O5.out HW.out)
            have BX := Lib.hid (Buf.then_ B5.out HW.out)
            dsimp only at y0 y1 s0 s1
            go_wp2_with fail
            go_roundw
            case rel => exact ⟨kx + 1, by omega, by go_num, Lib.hid (by rw [I0.out, I1.out]; exact OX.out), Lib.hid (by rw [I0.out, I1.out]; exact BX.out)⟩
            case measure => simp [intOf]; omega
        · obtain ⟨k1', hk1⟩ : ∃ k1', k1' + 1 = kx := ⟨kx - 1, by omega⟩
          obtain ⟨x, gs, rfl, c3, xf, ksc⟩ := PRE.out k1' hk1
          have e1 : (kx : Int) - 1 = (k1' : Int) := by omega
          have d0 : decide ((0 : Int) < (kx : Int)) = true := decide_eq_true (by omega)
          have d1 : decide (f < x) = false := decide_eq_false (by omega)
          have kk0 := (hb1.out.cell (p := ⟨g, _, none⟩) (World.block_lt_of_cell? _ _ k0)).trans k0
          have kk1 := (hb1.out.cell (p := ⟨g, _, none⟩) (World.block_lt_of_cell? _ _ k1)).trans k1
          have kk3 := (hb1.out.cell (p := ⟨gs, _, none⟩) (World.block_lt_of_cell? _ _ c3)).trans c3
          have bk : (k1' : Int) < (kx : Int) := by omega
          replace hk1 := Lib.hid hk1
          go_wp2_with fail
          go_quiet (fail)
          go_upto_region 9 with fail
          clear d0 d1 c3 kk3 e1 bk xf
          obtain ⟨wp, hwp⟩ : ∃ wp, wp = wr.drewN nq := ⟨_, rfl⟩
          have bp := Lib.hid (show Below wo.heap.size wo wp by rw [hwp]; exact Buf.below_drewN hb1.out _)
          have j0 : wp.cell? ⟨g, kx * 2, none⟩ = some (.int .i64 f) := by rw [hwp]; exact kk0
          have j1 : wp.cell? ⟨g, kx * 2 + 1, none⟩ = some (.int .i64 t) := by rw [hwp]; exact kk1
          rw [← hwp]
          clear hwp kk0 kk1 k0 k1 hb1 PRE
          have hb3 := Lib.hid (heap_alloc_new wp (.cells #[.int .i64 f, .int .i64 t] 49))
          have O3 := Lib.hid (own_below (own_below O.out bp.out) (new_block (w := wp) (.cells #[.int .i64 f, .int .i64 t] 49)))
          unfold Spans at O3
          rw [htk.out] at O3
          have one : Hid (∀ u ∈ [Value.int .i64 f, .int .i64 t], u.oneCell' = true) := Lib.hid (by intro u hu; simp at hu; rcases hu with rfl | rfl <;> rfl)
          have hB3 := Lib.hid (show w.heap.size ≤ (wp.alloc (.cells #[.int .i64 f, .int .i64 t] 49)).heap.size by have := HB.out.size; have := bp.out.size; simp; omega)
          go_upto_region 10 with (at_builtin; refine wpList_append_lies _ rfl (.tmp 46) (.tmp 51) 23 rfl w.heap.size 49 i0 (.agg #[.int .i64 0, .int .i64 0]) 2 16 Try.underlying23 hi hz0 hz1 hz2 rfl (by decide) _ kx (cells2 (L.take kx)) rfl O3.out ⟨wp.heap.size, 0, none⟩ 1 1 [.int .i64 f, .int .i64 t] rfl rfl (World.news_of_block hb3.out) one.out (by decide) (by unfold maxLen; omega) (by omega) hB3.out _ rfl ?_; intro gq cq w5 O2 G2 hg2 hl2)
          have O5 := Lib.hid (show Spans w5 w.heap.size (.slice (some ⟨gq, 0, none⟩) (kx + 1) cq) (L.take (kx + 1)) by
            unfold Spans
            rw [take_snoc_lp hp'.out, cells2_snoc, List.length_append, htk.out]
            exact O2)
          have B5 := Lib.hid (show Below w.heap.size w w5 from (Buf.then_ (Buf.then_ HB.out bp.out) (new_block (w := wp) (.cells #[.int .i64 f, .int .i64 t] 49))).grown G2 (by have := HB.out.size; have := bp.out.size; simp; omega) (fun b hb => (O3.out.lt b hb).1))
          obtain ⟨hq0, cqk, gq', egq, hgq5, hgqB, z0, z1, z2, z3⟩ := own_get O5.out (show (L.take (kx + 1))[kx]? = some (f, t) by rw [List.getElem?_take, if_pos (by omega)]; exact hp'.out)
          cases egq
          clear hq0
          have qc := Lib.hid (show kx + 1 ≤ cq from cqk)
          have qd := Lib.hid (show kx + 1 ≤ kx + 1 from Nat.le_refl _)
          have qe := Lib.hid (show kx ≤ kx + 1 from Nat.le_succ _)
          have wk : IntKind.i64.wrap ((kx : Int) + 1) = (kx : Int) + 1 := IntWalk.i64_in _ (by omega)
          have ck1 : (kx : Int) + 1 ≤ (cq : Int) := by omega
          have ck2 : (kx : Int) ≤ (cq : Int) := by omega
          have ck3 : (kx : Int) ≤ (kx : Int) + 1 := by omega
          have ck4 : kx ≤ kx + 1 := by omega
          have ck5 : kx + 1 ≤ cq := by omega
          have ck6 : ((kx + 1 : Nat) : Int) = (kx : Int) + 1 := by omega
          have g7 := Lib.hid (show w5.cell? ⟨g, kx * 2, none⟩ = some (.int .i64 f) ∧ w5.cell? ⟨g, kx * 2 + 1, none⟩ = some (.int .i64 t) from by
            obtain ⟨gx, ex, hgx, y0, y1⟩ := F.out kx _ hp'.out
            cases ex
            exact ⟨(B5.out.cell (p := ⟨g, _, none⟩) hgx).trans y0, (B5.out.cell (p := ⟨g, _, none⟩) hgx).trans y1⟩)
          clear O2 G2 hg2 hl2 O3 hb3 hB3 one j0 j1 bp HB O
          replace z0 := Lib.hid z0
          replace z1 := Lib.hid z1
          replace z2 := Lib.hid z2
          replace z3 := Lib.hid z3
          refine wp_region_noPanic ?_
          refine wp_region_any (by kernel_rfl) ?_
          refine Inv.wpAny_inv (fun k => false) [53, 54, 55, 56, 57, 58, 59, 60] (fun w' => Below w5.heap.size w5 w') (fun _ w1 w2 => Below w1.heap.size w1 w2) (fun k => ([fun v_ w_ => v_ = .slice (some ⟨gq, 0, none⟩) (kx + 1) cq, fun v_ w_ => v_ = .int .i64 (kx : Int), fun v_ w_ => v_ = .int .i64 ((kx : Int) + 1), fun v_ w_ => ∃ x c, v_ = .slice x 0 c, fun v_ w_ => v_ = .slice (some ⟨gq, 0, none⟩) (kx + 1) cq, fun v_ w_ => v_ = .int .i64 (kx : Int), fun v_ w_ => ∃ x c, v_ = .slice x 1 c, fun v_ w_ => v_ = .int .i64 0] : List (Value → World → Prop)).getD k (fun _ _ => True)) _ (fun σ => by simp only [Inv.putAll, List.foldl_cons, List.foldl_nil, Act.put, List.setIfInBounds_toArray, List.set_cons_zero, List.set_cons_succ]; rfl) (by kernel_rfl) (by kernel_rfl) ?_ (Below.refl _ _).drew ?_ ?_ 0 #[true, true, true, true, true, true, true, true] (by kernel_rfl) (by kernel_rfl) ?_
          · intro j k v w1 w2 hjk hv hr
            rcases k with _ | k
            · exact hv
            rcases k with _ | k
            · exact hv
            rcases k with _ | k
            · exact hv
            rcases k with _ | k
            · exact hv
            rcases k with _ | k
            · exact hv
            rcases k with _ | k
            · exact hv
            rcases k with _ | k
            · exact hv
            rcases k with _ | k
            · exact hv
            · exact hv
          · intro k t hl hd
            rcases k with _ | k
            · exact absurd hl (by decide +kernel)
            rcases k with _ | k
            · exact absurd hl (by decide +kernel)
            rcases k with _ | k
            · exact absurd hl (by decide +kernel)
            rcases k with _ | k
            · exact absurd hl (by decide +kernel)
            rcases k with _ | k
            · exact absurd hl (by decide +kernel)
            rcases k with _ | k
            · exact absurd hl (by decide +kernel)
            rcases k with _ | k
            · exact absurd hl (by decide +kernel)
            rcases k with _ | k
            · exact absurd hl (by decide +kernel)
            · simp at hd
          · show Inv.Steps _ _ _ _ _ _ _ _ [0, 1, 2, 3, 4, 5, 6, 7]
            refine Inv.Steps.go (by decide) (by rfl) (fun σ wx hw hd K hK => ?_) ?_
            · simp only [List.getElem_toArray, List.getElem_cons_zero, List.getElem_cons_succ, Act.put, List.setIfInBounds_toArray, List.set_cons_zero, List.set_cons_succ] at hK ⊢
              go_simp
              exact hK.out _ _ hw (Below.refl _ _) (rfl)
            refine Inv.Steps.go (by decide) (by rfl) (fun σ wx hw hd K hK => ?_) ?_
            · simp only [List.getElem_toArray, List.getElem_cons_zero, List.getElem_cons_succ, Act.put, List.setIfInBounds_toArray, List.set_cons_zero, List.set_cons_succ] at hK ⊢
              go_simp
              exact hK.out _ _ hw (Below.refl _ _) (rfl)
            refine Inv.Steps.go (by decide) (by rfl) (fun σ wx hw hd K hK => ?_) ?_
            · obtain e54 : (σ 54) = .int .i64 (kx : Int) := hd 1 (some 54) (by kernel_rfl) (by rfl)
              simp only [List.getElem_toArray, List.getElem_cons_zero, List.getElem_cons_succ, Act.put, List.setIfInBounds_toArray, List.set_cons_zero, List.set_cons_succ, e54] at hK ⊢
              go_simp
              exact hK.out _ _ hw (Below.refl _ _) (rfl)
            refine Inv.Steps.go (by decide) (by rfl) (fun σ wx hw hd K hK => ?_) ?_
            · obtain e53 : (σ 53) = .slice (some ⟨gq, 0, none⟩) (kx + 1) cq := hd 0 (some 53) (by kernel_rfl) (by rfl)
              obtain e55 : (σ 55) = .int .i64 ((kx : Int) + 1) := hd 2 (some 55) (by kernel_rfl) (by rfl)
              simp only [List.getElem_toArray, List.getElem_cons_zero, List.getElem_cons_succ, Act.put, List.setIfInBounds_toArray, List.set_cons_zero, List.set_cons_succ, e53, e55] at hK ⊢
              go_simp
              try simp only [if_pos qc.out, if_pos qd.out, if_pos qe.out]
              try go_simp
              exact hK.out _ _ hw (Below.refl _ _) (⟨_, _, rfl⟩)
            refine Inv.Steps.go (by decide) (by rfl) (fun σ wx hw hd K hK => ?_) ?_
            · simp only [List.getElem_toArray, List.getElem_cons_zero, List.getElem_cons_succ, Act.put, List.setIfInBounds_toArray, List.set_cons_zero, List.set_cons_succ] at hK ⊢
              go_simp
              exact hK.out _ _ hw (Below.refl _ _) (rfl)
            refine Inv.Steps.go (by decide) (by rfl) (fun σ wx hw hd K hK => ?_) ?_
            · simp only [List.getElem_toArray, List.getElem_cons_zero, List.getElem_cons_succ, Act.put, List.setIfInBounds_toArray, List.set_cons_zero, List.set_cons_succ] at hK ⊢
              go_simp
              exact hK.out _ _ hw (Below.refl _ _) (rfl)
            refine Inv.Steps.go (by decide) (by rfl) (fun σ wx hw hd K hK => ?_) ?_
            · obtain e57 : (σ 57) = .slice (some ⟨gq, 0, none⟩) (kx + 1) cq := hd 4 (some 57) (by kernel_rfl) (by rfl)
              obtain e58 : (σ 58) = .int .i64 (kx : Int) := hd 5 (some 58) (by kernel_rfl) (by rfl)
              simp only [List.getElem_toArray, List.getElem_cons_zero, List.getElem_cons_succ, Act.put, List.setIfInBounds_toArray, List.set_cons_zero, List.set_cons_succ, e57, e58] at hK ⊢
              go_simp
              try simp only [if_pos qc.out, if_pos qd.out, if_pos qe.out]
              try go_simp
              exact hK.out _ _ hw (Below.refl _ _) (⟨_, _, rfl⟩)
            refine Inv.Steps.go (by decide) (by rfl) (fun σ wx hw hd K hK => ?_) ?_
            · obtain ⟨x56, c56, e56⟩ : ∃ x c, (σ 56) = .slice x 0 c := hd 3 (some 56) (by kernel_rfl) (by rfl)
              obtain ⟨x59, c59, e59⟩ : ∃ x c, (σ 59) = .slice x 1 c := hd 6 (some 59) (by kernel_rfl) (by rfl)
              simp only [List.getElem_toArray, List.getElem_cons_zero, List.getElem_cons_succ, Act.put, List.setIfInBounds_toArray, List.set_cons_zero, List.set_cons_succ, e56, e59] at hK ⊢
              refine wp_copy_none (.tmp 56) (.tmp 59) 23 23 rfl 49 2 Try.underlying23 hsz x56 x59 c56 1 c59 (by simp [Act.eval]) (by simp [Act.eval]) ?_
              exact hK.out _ _ hw (Below.refl _ _) (rfl)
            exact Inv.Steps.nil
          · intro σ wx hw hd
            have HW := Lib.hid hw
            clear hd hw
            refine Inv.done (by kernel_rfl) (NoPanic.normal ?_)
            generalize σ 53 = v53
            generalize σ 54 = v54
            generalize σ 55 = v55
            generalize σ 56 = v56
            generalize σ 57 = v57
            generalize σ 58 = v58
            generalize σ 59 = v59
            generalize σ 60 = v60
            have y0 := (HW.out.cell (p := ⟨g, _, none⟩) (World.block_lt_of_cell? _ _ g7.out.1)).trans g7.out.1
            have y1 := (HW.out.cell (p := ⟨g, _, none⟩) (World.block_lt_of_cell? _ _ g7.out.2)).trans g7.out.2
            have s0 := (HW.out.cell (p := ⟨gq, _, none⟩) hgq5).trans z0.out
            have s1 := (HW.out.cell (p := ⟨gq, _, none⟩) hgq5).trans z1.out
            have s2 := (World.frozen?_of_block (a := ⟨gq, kx * 2, none⟩) (HW.out.block gq hgq5)).trans z2.out
            have s3 := (World.frozen?_of_block (a := ⟨gq, kx * 2 + 1, none⟩) (HW.out.block gq hgq5)).trans z3.out
            have I0 := Lib.hid (setCell_id s0)
            have I1 := Lib.hid (setCell_id s1)
            have OX := Lib.hid (own_below O5.out HW.out)
            have BX := Lib.hid (Buf.then_ B5.out HW.out)
            dsimp only at y0 y1 s0 s1
            go_wp2_with fail
            go_roundw
            case rel => exact ⟨kx + 1, by omega, by go_num, Lib.hid (by rw [I0.out, I1.out]; exact OX.out), Lib.hid (by rw [I0.out, I1.out]; exact BX.out)⟩
            case measure => simp [intOf]; omega
    · obtain rfl : kx = n := by omega
      have hL : L.take kx = L := List.take_of_length_le (by rw [← hn.out]; exact Nat.le_refl _)
      rw [hL] at O
      clear htk hL hlt hk
      obtain ⟨w2, hw2⟩ : ∃ z, z = wr := ⟨_, rfl⟩
      subst hw2
      obtain ⟨n, hnn⟩ : ∃ n, n = kx := ⟨_, rfl⟩
      subst hnn
      have FS := Lib.hid (fun (j : Nat) (p : Int × Int) (hj : L[j]? = some p) => own_get O.out hj)
      have B0 := Lib.hid (Below.refl w2.heap.size w2)
      have Z0 : Hid (Spans w2 w2.heap.size (.slice none 0 0) (L.take 0)) := Lib.hid (World.ownsRow_nil _ _ _ _)
      go_wp2_with fail
      go_loopw [6, 7] (fun s i wr => ∃ kx : Nat, kx ≤ n ∧ i = .int .i64 kx ∧ Hid (Spans wr w2.heap.size s (L.take kx)) ∧ Hid (Below w2.heap.size w2 wr)) (fun _ i _ => n - (intOf i).toNat)
      case atStart => exact ⟨0, Nat.zero_le _, rfl, Z0, B0⟩
      case round =>
        clear B0 Z0
        obtain ⟨kx, hk, rfl, OT, HC⟩ := hrel
        obtain ⟨ta, tc, rfl⟩ := own_len OT.out
        have htk : (L.take kx).length = kx := by rw [List.length_take, ← hn.out]; omega
        rw [htk] at OT
        try rw [htk]
        replace htk := Lib.hid htk
        by_cases hlt : kx < n
        · obtain ⟨⟨f, t⟩, hp⟩ : ∃ p, L[kx]? = some p := ⟨L[kx]'(by rw [← hn.out]; exact hlt), List.getElem?_eq_getElem _⟩
          obtain ⟨hz1_, hz2_, g, rfl, hg, hgB, q0, q1, _⟩ := FS.out _ _ hp
          have k0 := (HC.out.cell (p := ⟨g, _, none⟩) hg).trans q0
          have k1 := (HC.out.cell (p := ⟨g, _, none⟩) hg).trans q1
          dsimp only at k0 k1
          have b1 : (kx : Int) < n := by omega
          have hp' := Lib.hid hp
          have PRE : Hid (∀ k1 : Nat, k1 + 1 = kx → ∃ y gs, ta = some ⟨gs, 0, none⟩ ∧ wr.cell? ⟨gs, k1 * 2 + 1, none⟩ = some (.int .i64 y) ∧ y < f ∧ kx ≤ tc) := Lib.hid fun k1 he => by
            obtain ⟨⟨x, y⟩, hx⟩ : ∃ p, L[k1]? = some p := ⟨L[k1]'(by rw [← hn.out]; omega), List.getElem?_eq_getElem _⟩
            have hx2 : (L.take kx)[k1]? = some (x, y) := by rw [List.getElem?_take, if_pos (by omega)]; exact hx
            obtain ⟨_, h2, gs, e, _, _, _, h4, _⟩ := own_get OT.out hx2
            have h5 := CC.out.get (show k1 < kx by omega) hx hp
            simp only at h5
            exact ⟨y, gs, e, h4, by omega, by omega⟩
          clear q0 q1 hp hz1_
          rcases Nat.eq_zero_or_pos kx with hk0 | hk0
          · have d0 : decide ((0 : Int) < (kx : Int)) = false := decide_eq_false (by omega)
            have d0n : decide (0 < kx) = false := decide_eq_false (by omega)
            replace hk0 := Lib.hid hk0
            go_wp2_with fail
            go_quiet (fail)
            go_upto_region 19 with fail
            clear d0 d0n
            obtain ⟨wp, hwp⟩ : ∃ wp, wp = wr.drewN nq := ⟨_, rfl⟩
            have bp := Lib.hid (show Below wr.heap.size wr wp by rw [hwp]; exact Buf.below_drewN (Below.refl _ _) _)
            have j0 : wp.cell? ⟨g, kx * 2, none⟩ = some (.int .i64 f) := by rw [hwp]; exact k0
            have j1 : wp.cell? ⟨g, kx * 2 + 1, none⟩ = some (.int .i64 t) := by rw [hwp]; exact k1
            rw [← hwp]
            clear hwp k0 k1 PRE
            have hb3 := Lib.hid (heap_alloc_new wp (.cells #[.int .i64 f, .int .i64 t] 49))
            have O3 := Lib.hid (own_below (own_below OT.out bp.out) (new_block (w := wp) (.cells #[.int .i64 f, .int .i64 t] 49)))
            unfold Spans at O3
            rw [htk.out] at O3
            have one : Hid (∀ u ∈ [Value.int .i64 f, .int .i64 t], u.oneCell' = true) := Lib.hid (by intro u hu; simp at hu; rcases hu with rfl | rfl <;> rfl)
            have hB3 := Lib.hid (show w2.heap.size ≤ (wp.alloc (.cells #[.int .i64 f, .int .i64 t] 49)).heap.size by have := HC.out.size; have := bp.out.size; simp; omega)
            go_wp2_with (at_builtin; refine wpList_append_lies _ rfl (.tmp 109) (.tmp 114) 23 rfl w2.heap.size 49 i0 (.agg #[.int .i64 0, .int .i64 0]) 2 16 Try.underlying23 hi hz0 hz1 hz2 rfl (by decide) _ kx (cells2 (L.take kx)) rfl O3.out ⟨wp.heap.size, 0, none⟩ 1 1 [.int .i64 f, .int .i64 t] rfl rfl (World.news_of_block hb3.out) one.out (by decide) (by unfold maxLen; omega) (by omega) hB3.out _ rfl ?_; intro gq cq w5 O2 G2 hg2 hl2)
            have O5 := Lib.hid (show Spans w5 w2.heap.size (.slice (some ⟨gq, 0, none⟩) (kx + 1) cq) (L.take (kx + 1)) by
              unfold Spans
              rw [take_snoc_lp hp'.out, cells2_snoc, List.length_append, htk.out]
              exact O2)
            have B5 := Lib.hid (show Below w2.heap.size w2 w5 from (Buf.then_ (Buf.then_ HC.out bp.out) (new_block (w := wp) (.cells #[.int .i64 f, .int .i64 t] 49))).grown G2 (by have := HC.out.size; have := bp.out.size; simp; omega) (fun b hb => (O3.out.lt b hb).1))
            clear O2 G2 hg2 hl2 O3 hb3 hB3 one j0 j1 bp OT HC
            go_roundw
            case rel => exact ⟨kx + 1, by omega, by go_num, O5, B5⟩
            case measure => simp [intOf]; omega
          · obtain ⟨k1', hk1⟩ : ∃ k1', k1' + 1 = kx := ⟨kx - 1, by omega⟩
            obtain ⟨x, gs, rfl, c3, xf, ksc⟩ := PRE.out k1' hk1
            have e1 : (kx : Int) - 1 = (k1' : Int) := by omega
            have d0 : decide ((0 : Int) < (kx : Int)) = true := decide_eq_true (by omega)
            have d1 : decide (f ≤ x) = false := decide_eq_false (by omega)
            have bk : (k1' : Int) < (kx : Int) := by omega
            replace hk1 := Lib.hid hk1
            go_wp2_with fail
            go_quiet (fail)
            go_upto_region 19 with fail
            clear d0 d1 c3 e1 bk xf
            obtain ⟨wp, hwp⟩ : ∃ wp, wp = wr.drewN nq := ⟨_, rfl⟩
            have bp := Lib.hid (show Below wr.heap.size wr wp by rw [hwp]; exact Buf.below_drewN (Below.refl _ _) _)
            have j0 : wp.cell? ⟨g, kx * 2, none⟩ = some (.int .i64 f) := by rw [hwp]; exact k0
            have j1 : wp.cell? ⟨g, kx * 2 + 1, none⟩ = some (.int .i64 t) := by rw [hwp]; exact k1
            rw [← hwp]
            clear hwp k0 k1 PRE
            have hb3 := Lib.hid (heap_alloc_new wp (.cells #[.int .i64 f, .int .i64 t] 49))
            have O3 := Lib.hid (own_below (own_below OT.out bp.out) (new_block (w := wp) (.cells #[.int .i64 f, .int .i64 t] 49)))
            unfold Spans at O3
            rw [htk.out] at O3
            have one : Hid (∀ u ∈ [Value.int .i64 f, .int .i64 t], u.oneCell' = true) := Lib.hid (by intro u hu; simp at hu; rcases hu with rfl | rfl <;> rfl)
            have hB3 := Lib.hid (show w2.heap.size ≤ (wp.alloc (.cells #[.int .i64 f, .int .i64 t] 49)).heap.size by have := HC.out.size; have := bp.out.size; simp; omega)
            go_wp2_with (at_builtin; refine wpList_append_lies _ rfl (.tmp 109) (.tmp 114) 23 rfl w2.heap.size 49 i0 (.agg #[.int .i64 0, .int .i64 0]) 2 16 Try.underlying23 hi hz0 hz1 hz2 rfl (by decide) _ kx (cells2 (L.take kx)) rfl O3.out ⟨wp.heap.size, 0, none⟩ 1 1 [.int .i64 f, .int .i64 t] rfl rfl (World.news_of_block hb3.out) one.out (by decide) (by unfold maxLen; omega) (by omega) hB3.out _ rfl ?_; intro gq cq w5 O2 G2 hg2 hl2)
            have O5 := Lib.hid (show Spans w5 w2.heap.size (.slice (some ⟨gq, 0, none⟩) (kx + 1) cq) (L.take (kx + 1)) by
              unfold Spans
              rw [take_snoc_lp hp'.out, cells2_snoc, List.length_append, htk.out]
              exact O2)
            have B5 := Lib.hid (show Below w2.heap.size w2 w5 from (Buf.then_ (Buf.then_ HC.out bp.out) (new_block (w := wp) (.cells #[.int .i64 f, .int .i64 t] 49))).grown G2 (by have := HC.out.size; have := bp.out.size; simp; omega) (fun b hb => (O3.out.lt b hb).1))
            clear O2 G2 hg2 hl2 O3 hb3 hB3 one j0 j1 bp OT HC
            go_roundw
            case rel => exact ⟨kx + 1, by omega, by go_num, O5, B5⟩
            case measure => simp [intOf]; omega
        · obtain rfl : kx = n := by omega
          have hL : L.take kx = L := List.take_of_length_le (by rw [← hn.out]; exact Nat.le_refl _)
          rw [hL] at OT
          go_wp2_with fail
          go_ret
          have := HB.out.size
          refine ⟨⟨_, rfl, own_mono (B := w2.heap.size) ?_ this⟩, Buf.then_ HB.out HC.out⟩
          rw [← hn.out]
          exact (show wr.ownsRow w2.heap.size 49 2 (.slice ta kx tc) kx (cells2 L) from by have h := OT.out; unfold Spans at h; rw [← hn.out] at h; exact h)

end Spn
end Go.Proofs.Ytfmhfhggogjbkaa

/- The reference's Minus, Meet and Cut at canonical sets. -/
set_option linter.unusedVariables false
set_option linter.unusedSimpArgs false
namespace Go.Proofs.Ytfmhfhggogjbkaa
open Go.RowKit Dice
namespace Spn
open Sp (cells2 cells2_snoc cells2_get Spans own_kept own_below own_mono own_shape)
set_option maxHeartbeats 4000000 in
set_option maxRecDepth 100000 in
theorem refminus_gen {w : World} {va vb : Value} {A0 B0 : LP} (ha : Its w va A0) (hb : Its w vb B0) (h9a : A0.length ≤ 100) (h9b : B0.length ≤ 100) :
    Calls Try.prog 21 #[va, vb] w fun e w' => (∃ r N, e = .returned r ∧ Spans w' w.heap.size r N ∧ Is N (fun x => hasB A0 x && !hasB B0 x) ∧ N.length ≤ 20000) ∧ Below w.heap.size w w' := by
  obtain ⟨i0, hi, hz0, hz1, hz2⟩ := info_get infoS
  have NA := Lib.hid (refnormal_any ha (by omega))
  have NB0 := Lib.hid fun (w' : World) (h' : Below w.heap.size w w') => refnormal_any (hb.keep h') (by omega)
  clear ha hb
  go_enter Try.func21, Try.ntmps21
  go_wp2_with fail
  refine NA.out.mono ?_
  rintro e w1 ⟨⟨r, A, rfl, OA, IsA, lA⟩, hb1⟩
  obtain ⟨n, hn⟩ : ∃ n, n = A.length := ⟨_, rfl⟩
  have h9n : n ≤ 100 := by omega
  replace hn := Lib.hid hn
  have CA := Lib.hid IsA.canon
  have HA0 := Lib.hid IsA.has
  clear lA IsA
  obtain ⟨xa, xc, rfl⟩ := own_len OA
  rw [← hn.out] at OA ⊢
  have NB := Lib.hid (NB0.out _ hb1)
  have FA0 := Lib.hid (fun (j : Nat) (p : Int × Int) (hj : A[j]? = some p) => own_get (L := A) (n := n) OA hj)
  have B1 := Lib.hid hb1
  clear OA hb1 NA NB0
  go_wp2_with fail
  refine NB.out.mono ?_
  rintro e w2 ⟨⟨r, B, rfl, OB, IsB, lB⟩, hb2⟩
  obtain ⟨m, hm⟩ : ∃ m, m = B.length := ⟨_, rfl⟩
  have h9m : m ≤ 100 := by omega
  replace hm := Lib.hid hm
  have CB := Lib.hid IsB.canon
  have HB0 := Lib.hid IsB.has
  clear lB IsB
  obtain ⟨ya, yc, rfl⟩ := own_len OB
  rw [← hm.out] at OB ⊢
  have FB := Lib.hid (fun (j : Nat) (p : Int × Int) (hj : B[j]? = some p) => own_get (L := B) (n := m) OB hj)
  have FA := Lib.hid (fun (j : Nat) (p : Int × Int) (hj : A[j]? = some p) => show n ≤ xc ∧ ∃ g, xa = some ⟨g, 0, none⟩ ∧ g < w2.heap.size ∧ w2.cell? ⟨g, j * 2, none⟩ = some (.int .i64 p.1) ∧ w2.cell? ⟨g, j * 2 + 1, none⟩ = some (.int .i64 p.2) from by
    obtain ⟨_, h2, g, e, hg, _, c0, c1, _⟩ := FA0.out j p hj
    exact ⟨h2, g, e, Nat.lt_of_lt_of_le hg hb2.size, (hb2.cell (p := ⟨g, _, none⟩) hg).trans c0, (hb2.cell (p := ⟨g, _, none⟩) hg).trans c1⟩)
  have B2 := Lib.hid (Buf.then_ B1.out hb2)
  have B0 := Lib.hid (Below.refl w2.heap.size w2)
  clear OB hb2 NB FA0 B1
  have Z0 : Hid (Spans w2 w2.heap.size (.slice none 0 0) []) := Lib.hid (World.ownsRow_nil _ _ _ _)
  have R0 := Lib.hid (Ri.start A B)
  go_wp2_with fail
  go_loopw [7, 8] (fun s i wr => ∃ (kx : Nat) (N : LP), kx ≤ n ∧ i = .int .i64 kx ∧ N.length ≤ kx * (m + 1) ∧ Hid (Spans wr w2.heap.size s N) ∧ Hid (Ri A B kx N) ∧ Hid (Below w2.heap.size w2 wr)) (fun _ i _ => n - (intOf i).toNat)
  case atStart => exact ⟨0, [], Nat.zero_le _, rfl, by simp, Z0, R0, B0⟩
  case round =>
    clear B0 Z0 R0
    obtain ⟨kx, N, hk, rfl, hlen, O, RI, HB⟩ := hrel
    have hbig : kx * (m + 1) ≤ 100 * 101 := Nat.mul_le_mul (by omega) (by omega)
    have hsm : (kx + 1) * (m + 1) = kx * (m + 1) + (m + 1) := Nat.succ_mul kx (m + 1)
    have hlen0 := hlen
    obtain ⟨KM, hKM⟩ : ∃ KM, KM = kx * (m + 1) := ⟨_, rfl⟩
    rw [← hKM] at hbig hsm hlen hlen0
    replace hsm := Lib.hid hsm
    replace hKM := Lib.hid hKM
    obtain ⟨sa, sc, rfl⟩ := own_len O.out
    by_cases hlt : kx < n
    · obtain ⟨wo, hwo⟩ : ∃ wo, wo = wr := ⟨_, rfl⟩
      subst hwo
      obtain ⟨⟨lo, t⟩, hp⟩ : ∃ p, A[kx]? = some p := ⟨A[kx]'(by rw [← hn.out]; exact hlt), List.getElem?_eq_getElem _⟩
      obtain ⟨hz2_, g, hxa, hg, q0, q1⟩ := FA.out _ _ hp
      have lt := CA.out.at hp
      dsimp only at lt q0 q1
      have k0 := (HB.out.cell (p := ⟨g, _, none⟩) hg).trans q0
      have k1 := Lib.hid ((HB.out.cell (p := ⟨g, _, none⟩) hg).trans q1)
      subst hxa
      have kn : (kx : Int) < (n : Int) := by omega
      have RK := Lib.hid (Rk.start RI.out hp lt)
      have HP := Lib.hid hp
      clear q0 q1 hp
      go_wp2_with fail
      go_loopw [7, 9, 10] (fun s u v wr => ∃ (kz : Nat) (fx : Int) (N : LP), kz ≤ m ∧ u = .int .i64 fx ∧ v = .int .i64 kz ∧ Hid (Spans wr w2.heap.size s N) ∧ Hid (Rk A B kx kz lo t fx N) ∧ N.length ≤ KM + kz ∧ Hid (Below w2.heap.size w2 wr)) (fun _ _ v _ => m - (intOf v).toNat)
      case atStart => exact ⟨0, lo, N, Nat.zero_le _, rfl, rfl, O, RK, by omega, HB⟩
      case round =>
        have HBo := HB
        clear O RI RK HB k0 k1 hlen
        obtain ⟨kz, fx, N, hkz, rfl, rfl, O, RK, hlen, HB⟩ := hrel
        have hr9 : N.length ≤ 10300 := by omega
        have hlen9 := Lib.hid hlen
        obtain ⟨sa, sc, rfl⟩ := own_len O.out
        obtain ⟨nl, hnl'⟩ : ∃ nl, N.length = nl := ⟨_, rfl⟩
        rw [hnl'] at O hr9
        try rw [hnl']
        have hnl := Lib.hid hnl'
        clear hnl'
        have cA1 := (HB.out.cell (p := ⟨g, _, none⟩) hg).trans (show w2.cell? ⟨g, kx * 2 + 1, none⟩ = some (.int .i64 t) from by
          obtain ⟨_, g', e, _, _, c1⟩ := FA.out _ _ HP.out
          cases e; exact c1)
        by_cases hlz : kz < m
        · obtain ⟨⟨u, v⟩, hq⟩ : ∃ p, B[kz]? = some p := ⟨B[kz]'(by rw [← hm.out]; exact hlz), List.getElem?_eq_getElem _⟩
          obtain ⟨hz1_, hz3_, gb, hya, hgb, _, q0, q1, _⟩ := FB.out _ _ hq
          have uv := CB.out.at hq
          dsimp only at uv
          have j0 := (HB.out.cell (p := ⟨gb, _, none⟩) hgb).trans q0
          have j1 := (HB.out.cell (p := ⟨gb, _, none⟩) hgb).trans q1
          dsimp only at j0 j1
          subst hya
          have km : (kz : Int) < (m : Int) := by omega
          have HQ := Lib.hid hq
          have HQQ := Lib.hid hq
          clear q0 q1 hq hz1_
          by_cases c1 : v ≤ fx
          · have d1 : decide (v ≤ fx) = true := decide_eq_true c1
            have RN := Lib.hid (Rk.skip RK.out HQ.out (.inl c1))
            clear RK HQ
            go_wp2_with fail
            go_quiet (fail)
            go_wp2_with fail
            go_roundw
            case rel => exact ⟨kz + 1, fx, N, by omega, rfl, by go_num, Lib.hid (by repeat (first | exact O.out | refine own_below ?_ (Buf.below_drewN (Below.refl _ _) _))), RN, by have := hlen9.out; omega, Lib.hid (by repeat (first | exact HB.out | refine Buf.below_drewN ?_ _))⟩
            case measure => simp [intOf]; omega
          · have d1 : decide (v ≤ fx) = false := decide_eq_false c1
            by_cases c2 : t ≤ u
            · have d2 : decide (t ≤ u) = true := decide_eq_true c2
              have RN := Lib.hid (Rk.skip RK.out HQ.out (.inr c2))
              clear RK HQ
              go_wp2_with fail
              go_quiet (fail)
              go_wp2_with fail
              go_roundw
              case rel => exact ⟨kz + 1, fx, N, by omega, rfl, by go_num, Lib.hid (by repeat (first | exact O.out | refine own_below ?_ (Buf.below_drewN (Below.refl _ _) _))), RN, by have := hlen9.out; omega, Lib.hid (by repeat (first | exact HB.out | refine Buf.below_drewN ?_ _))⟩
              case measure => simp [intOf]; omega
            · have d2 : decide (t ≤ u) = false := decide_eq_false c2
              have RN := Rk.hit RK.out CB.out HQ.out (by simp only; omega) (by simp only; omega)
              by_cases c3 : fx < u
              · rw [if_pos c3] at RN
                replace RN := Lib.hid RN
                clear RK HQ
                go_wp2_with fail
                go_quiet (fail)
                go_upto_region 12 with fail
                obtain ⟨wp, hwp⟩ : ∃ wp, wp = wr.drewN nq := ⟨_, rfl⟩
                have bp := Lib.hid (show Below wr.heap.size wr wp by rw [hwp]; repeat (first | exact Below.refl _ _ | refine Buf.below_drewN ?_ _))
                have j0' : wp.cell? ⟨gb, kz * 2, none⟩ = some (.int .i64 u) := by rw [hwp]; exact j0
                have j1' : wp.cell? ⟨gb, kz * 2 + 1, none⟩ = some (.int .i64 v) := by rw [hwp]; exact j1
                rw [← hwp]
                clear hwp
                have hb3 := Lib.hid (heap_alloc_new wp (.cells #[.int .i64 fx, .int .i64 u] 49))
                have O3 := Lib.hid (own_below (own_below O.out bp.out) (new_block (w := wp) (.cells #[.int .i64 fx, .int .i64 u] 49)))
                unfold Spans at O3
                rw [hnl.out] at O3
                have one : Hid (∀ uu ∈ [Value.int .i64 fx, .int .i64 u], uu.oneCell' = true) := Lib.hid (by intro uu hu; simp at hu; rcases hu with rfl | rfl <;> rfl)
                have hB3 := Lib.hid (show w2.heap.size ≤ (wp.alloc (.cells #[.int .i64 fx, .int .i64 u] 49)).heap.size by have := HB.out.size; have := bp.out.size; simp; omega)
                go_upto_region 13 with (at_builtin; refine wpList_append_lies _ rfl (.tmp 59) (.tmp 67) 23 rfl w2.heap.size 49 i0 (.agg #[.int .i64 0, .int .i64 0]) 2 16 Try.underlying23 hi hz0 hz1 hz2 rfl (by decide) _ nl (cells2 N) rfl O3.out ⟨wp.heap.size, 0, none⟩ 1 1 [.int .i64 fx, .int .i64 u] rfl rfl (World.news_of_block hb3.out) one.out (by decide) (by unfold maxLen; omega) (by omega) hB3.out _ rfl ?_; intro gq cq w5 O2 G2 hg2 hl2)
                have O5 := Lib.hid (show Spans w5 w2.heap.size (.slice (some ⟨gq, 0, none⟩) (nl + 1) cq) (N ++ [(fx, u)]) by
                  unfold Spans
                  rw [cells2_snoc, List.length_append, hnl.out]
                  exact O2)
                have B5 := Lib.hid (show Below w2.heap.size w2 w5 from (Buf.then_ (Buf.then_ HB.out bp.out) (new_block (w := wp) (.cells #[.int .i64 fx, .int .i64 u] 49))).grown G2 (by have := HB.out.size; have := bp.out.size; simp; omega) (fun b hb => (O3.out.lt b hb).1))
                clear O2 G2 hg2 hl2 O3 hb3 hB3 one bp
                have HBp := Lib.hid (show gb < wp.heap.size from World.block_lt_of_cell? _ _ j1')
                have j5 := Lib.hid (show w5.cell? ⟨gb, kz * 2 + 1, none⟩ = some (.int .i64 v) from by
                  obtain ⟨_, _, gb', e, hgb', _, _, q1, _⟩ := FB.out _ _ HQQ.out
                  cases e
                  exact (B5.out.cell (p := ⟨gb, _, none⟩) hgb').trans q1)
                have j6 := j5.out
                clear j0 j1 j0' j1' cA1
                go_wp2_with fail
                go_roundw
                case rel => exact ⟨kz + 1, max fx v, N ++ [(fx, u)], by omega, rfl, by go_num, O5, RN, by rw [List.length_append]; have := hlen9.out; simp; omega, B5⟩
                case measure => simp [intOf]; omega
              · rw [if_neg c3] at RN
                replace RN := Lib.hid RN
                clear RK HQ
                go_wp2_with fail
                go_quiet (fail)
                go_wp2_with fail
                go_roundw
                case rel => exact ⟨kz + 1, max fx v, N, by omega, rfl, by go_num, Lib.hid (by repeat (first | exact O.out | refine own_below ?_ (Buf.below_drewN (Below.refl _ _) _))), RN, by have := hlen9.out; omega, Lib.hid (by repeat (first | exact HB.out | refine Buf.below_drewN ?_ _))⟩
                case measure => simp [intOf]; omega
        · have RN := Rk.stop RK.out CA.out HP.out (by rw [← hm.out]; omega)
          have nq : Nat := 0
          by_cases c1 : fx < t
          · rw [if_pos c1] at RN
            replace RN := Lib.hid RN
            clear RK
            go_upto_region 15 with fail
            obtain ⟨wp, hwp⟩ : ∃ wp, wp = wr := ⟨_, rfl⟩
            have bp := Lib.hid (show Below wr.heap.size wr wp by rw [hwp]; repeat (first | exact Below.refl _ _ | refine Buf.below_drewN ?_ _))
            have c1' : wp.cell? ⟨g, kx * 2 + 1, none⟩ = some (.int .i64 t) := by rw [hwp]; exact cA1
            rw [← hwp]
            clear hwp
            have hb3 := Lib.hid (heap_alloc_new wp (.cells #[.int .i64 fx, .int .i64 t] 49))
            have O3 := Lib.hid (own_below (own_below O.out bp.out) (new_block (w := wp) (.cells #[.int .i64 fx, .int .i64 t] 49)))
            unfold Spans at O3
            rw [hnl.out] at O3
            have one : Hid (∀ uu ∈ [Value.int .i64 fx, .int .i64 t], uu.oneCell' = true) := Lib.hid (by intro uu hu; simp at hu; rcases hu with rfl | rfl <;> rfl)
            have hB3 := Lib.hid (show w2.heap.size ≤ (wp.alloc (.cells #[.int .i64 fx, .int .i64 t] 49)).heap.size by have := HB.out.size; have := bp.out.size; simp; omega)
            go_wp2_with (at_builtin; refine wpList_append_lies _ rfl (.tmp 83) (.tmp 91) 23 rfl w2.heap.size 49 i0 (.agg #[.int .i64 0, .int .i64 0]) 2 16 Try.underlying23 hi hz0 hz1 hz2 rfl (by decide) _ nl (cells2 N) rfl O3.out ⟨wp.heap.size, 0, none⟩ 1 1 [.int .i64 fx, .int .i64 t] rfl rfl (World.news_of_block hb3.out) one.out (by decide) (by unfold maxLen; omega) (by omega) hB3.out _ rfl ?_; intro gq cq w5 O2 G2 hg2 hl2)
            have O5 := Lib.hid (show Spans w5 w2.heap.size (.slice (some ⟨gq, 0, none⟩) (nl + 1) cq) (N ++ [(fx, t)]) by
              unfold Spans
              rw [cells2_snoc, List.length_append, hnl.out]
              exact O2)
            have B5 := Lib.hid (show Below w2.heap.size w2 w5 from (Buf.then_ (Buf.then_ HB.out bp.out) (new_block (w := wp) (.cells #[.int .i64 fx, .int .i64 t] 49))).grown G2 (by have := HB.out.size; have := bp.out.size; simp; omega) (fun b hb => (O3.out.lt b hb).1))
            clear O2 G2 hg2 hl2 O3 hb3 hB3 one bp
            go_roundw
            case rel => exact ⟨kx + 1, N ++ [(fx, t)], by omega, by go_num, by rw [List.length_append, hsm.out]; have := hlen9.out; simp; omega, O5, RN, B5⟩
            case measure => simp [intOf]; omega
          · rw [if_neg c1] at RN
            replace RN := Lib.hid RN
            clear RK
            go_wp2_with fail
            go_roundw
            case rel => exact ⟨kx + 1, N, by omega, by go_num, by rw [hsm.out]; have := hlen9.out; omega, O, RN, HB⟩
            case measure => simp [intOf]; omega
    · obtain rfl : kx = n := by omega
      have RX := RI.out.is
      rw [take_all A kx (by rw [← hn.out]; exact Nat.le_refl _)] at RX
      have sh : N.length ≤ 20000 := by omega
      go_wp2_with fail
      go_ret
      exact ⟨⟨_, N, rfl, own_mono O.out B2.out.size, RX.congr (fun x => by rw [HA0.out, HB0.out]), sh⟩, Buf.then_ B2.out HB.out⟩
set_option maxHeartbeats 4000000 in
set_option maxRecDepth 100000 in
theorem refmeet_gen {w : World} {va vb : Value} {A0 B0 : LP} (ha : Its w va A0) (hb : Its w vb B0) (h9a : A0.length ≤ 100) (h9b : B0.length ≤ 100) :
    Calls Try.prog 19 #[va, vb] w fun e w' => (∃ r N, e = .returned r ∧ Spans w' w.heap.size r N ∧ Is N (fun x => hasB A0 x && hasB B0 x) ∧ N.length ≤ 20000) ∧ Below w.heap.size w w' := by
  obtain ⟨i0, hi, hz0, hz1, hz2⟩ := info_get infoS
  have NA := Lib.hid (refnormal_any ha (by omega))
  have NB0 := Lib.hid fun (w' : World) (h' : Below w.heap.size w w') => refnormal_any (hb.keep h') (by omega)
  clear ha hb
  go_enter Try.func19, Try.ntmps19
  go_wp2_with fail
  refine NA.out.mono ?_
  rintro e w1 ⟨⟨r, A, rfl, OA, IsA, lA⟩, hb1⟩
  obtain ⟨n, hn⟩ : ∃ n, n = A.length := ⟨_, rfl⟩
  have h9n : n ≤ 100 := by omega
  replace hn := Lib.hid hn
  have CA := Lib.hid IsA.canon
  have HA0 := Lib.hid IsA.has
  clear lA IsA
  obtain ⟨xa, xc, rfl⟩ := own_len OA
  rw [← hn.out] at OA ⊢
  have NB := Lib.hid (NB0.out _ hb1)
  have FA0 := Lib.hid (fun (j : Nat) (p : Int × Int) (hj : A[j]? = some p) => own_get (L := A) (n := n) OA hj)
  have B1 := Lib.hid hb1
  clear OA hb1 NA NB0
  go_wp2_with fail
  refine NB.out.mono ?_
  rintro e w2 ⟨⟨r, B, rfl, OB, IsB, lB⟩, hb2⟩
  obtain ⟨m, hm⟩ : ∃ m, m = B.length := ⟨_, rfl⟩
  have h9m : m ≤ 100 := by omega
  replace hm := Lib.hid hm
  have CB := Lib.hid IsB.canon
  have HB0 := Lib.hid IsB.has
  clear lB IsB
  obtain ⟨ya, yc, rfl⟩ := own_len OB
  rw [← hm.out] at OB ⊢
  have FB := Lib.hid (fun (j : Nat) (p : Int × Int) (hj : B[j]? = some p) => own_get (L := B) (n := m) OB hj)
  have FA := Lib.hid (fun (j : Nat) (p : Int × Int) (hj : A[j]? = some p) => show n ≤ xc ∧ ∃ g, xa = some ⟨g, 0, none⟩ ∧ g < w2.heap.size ∧ w2.cell? ⟨g, j * 2, none⟩ = some (.int .i64 p.1) ∧ w2.cell? ⟨g, j * 2 + 1, none⟩ = some (.int .i64 p.2) from by
    obtain ⟨_, h2, g, e, hg, _, c0, c1, _⟩ := FA0.out j p hj
    exact ⟨h2, g, e, Nat.lt_of_lt_of_le hg hb2.size, (hb2.cell (p := ⟨g, _, none⟩) hg).trans c0, (hb2.cell (p := ⟨g, _, none⟩) hg).trans c1⟩)
  have B2 := Lib.hid (Buf.then_ B1.out hb2)
  have B0 := Lib.hid (Below.refl w2.heap.size w2)
  clear OB hb2 NB FA0 B1
  have Z0 : Hid (Spans w2 w2.heap.size (.slice none 0 0) []) := Lib.hid (World.ownsRow_nil _ _ _ _)
  have R0 := Lib.hid (Re.start A B)
  go_wp2_with fail
  go_loopw [7, 8] (fun s i wr => ∃ (kx : Nat) (N : LP), kx ≤ n ∧ i = .int .i64 kx ∧ N.length ≤ kx * m ∧ Hid (Spans wr w2.heap.size s N) ∧ Hid (Re A B kx 0 N) ∧ Hid (Below w2.heap.size w2 wr)) (fun _ i _ => n - (intOf i).toNat)
  case atStart => exact ⟨0, [], Nat.zero_le _, rfl, by simp, Z0, R0, B0⟩
  case round =>
    clear B0 Z0 R0
    obtain ⟨kx, N, hk, rfl, hlen, O, RI, HB⟩ := hrel
    have hbig : kx * m ≤ 100 * 100 := Nat.mul_le_mul (by omega) (by omega)
    have hsm : (kx + 1) * m = kx * m + m := Nat.succ_mul kx m
    obtain ⟨KM, hKM⟩ : ∃ KM, KM = kx * m := ⟨_, rfl⟩
    rw [← hKM] at hbig hsm hlen
    replace hsm := Lib.hid hsm
    replace hKM := Lib.hid hKM
    obtain ⟨sa, sc, rfl⟩ := own_len O.out
    by_cases hlt : kx < n
    · obtain ⟨wo, hwo⟩ : ∃ wo, wo = wr := ⟨_, rfl⟩
      subst hwo
      obtain ⟨⟨lo, t⟩, hp⟩ : ∃ p, A[kx]? = some p := ⟨A[kx]'(by rw [← hn.out]; exact hlt), List.getElem?_eq_getElem _⟩
      obtain ⟨hz2_, g, hxa, hg, q0, q1⟩ := FA.out _ _ hp
      have lt := CA.out.at hp
      dsimp only at lt q0 q1
      subst hxa
      have kn : (kx : Int) < (n : Int) := by omega
      have RK := RI
      have HP := Lib.hid hp
      clear q0 q1 hp
      go_wp2_with fail
      go_loopw [7, 9] (fun s v wr => ∃ (kz : Nat) (N : LP), kz ≤ m ∧ v = .int .i64 kz ∧ Hid (Spans wr w2.heap.size s N) ∧ Hid (Re A B kx kz N) ∧ N.length ≤ KM + kz ∧ Hid (Below w2.heap.size w2 wr)) (fun _ v _ => m - (intOf v).toNat)
      case atStart => exact ⟨0, N, Nat.zero_le _, rfl, O, RK, by omega, HB⟩
      case round =>
        have HBo := HB
        clear O RI RK HB hlen
        obtain ⟨kz, N, hkz, rfl, O, RK, hlen, HB⟩ := hrel
        have hr9 : N.length ≤ 10300 := by omega
        have hlen9 := Lib.hid hlen
        obtain ⟨sa, sc, rfl⟩ := own_len O.out
        obtain ⟨nl, hnl'⟩ : ∃ nl, N.length = nl := ⟨_, rfl⟩
        rw [hnl'] at O hr9
        try rw [hnl']
        have hnl := Lib.hid hnl'
        clear hnl'
        by_cases hlz : kz < m
        · obtain ⟨⟨u, v⟩, hq⟩ : ∃ p, B[kz]? = some p := ⟨B[kz]'(by rw [← hm.out]; exact hlz), List.getElem?_eq_getElem _⟩
          obtain ⟨hz1_, hz3_, gb, hya, hgb, _, q0, q1, _⟩ := FB.out _ _ hq
          obtain ⟨_, g', e, _, c0, c1⟩ := FA.out _ _ HP.out
          cases e
          have uv := CB.out.at hq
          dsimp only at uv
          have V : Hid (∀ w', Below w2.heap.size w2 w' → w'.cell? ⟨g, kx * 2, none⟩ = some (.int .i64 lo) ∧ w'.cell? ⟨g, kx * 2 + 1, none⟩ = some (.int .i64 t) ∧ w'.cell? ⟨gb, kz * 2, none⟩ = some (.int .i64 u) ∧ w'.cell? ⟨gb, kz * 2 + 1, none⟩ = some (.int .i64 v)) := Lib.hid fun w' h => ⟨(h.cell (p := ⟨g, _, none⟩) hg).trans c0, (h.cell (p := ⟨g, _, none⟩) hg).trans c1, (h.cell (p := ⟨gb, _, none⟩) hgb).trans q0, (h.cell (p := ⟨gb, _, none⟩) hgb).trans q1⟩
          subst hya
          have km : (kz : Int) < (m : Int) := by omega
          have HQ := Lib.hid hq
          obtain ⟨mx, hmx⟩ : ∃ mx, mx = max lo u := ⟨_, rfl⟩
          obtain ⟨mn, hmn⟩ : ∃ mn, mn = min t v := ⟨_, rfl⟩
          have RN := Re.next RK.out CA.out CB.out HP.out HQ.out
          simp only [← hmx, ← hmn] at RN
          replace hmx := Lib.hid hmx
          replace hmn := Lib.hid hmn
          replace RN := Lib.hid RN
          clear c0 c1 q0 q1 hq hz1_ RK HQ
          go_upto_region 9 with fail
          obtain ⟨wq, hwq⟩ : ∃ wq, wq = wr := ⟨_, rfl⟩
          have bq := Lib.hid (show Below wr.heap.size wr wq by rw [hwq]; exact Below.refl _ _)
          have HBq := Lib.hid (Buf.then_ HB.out bq.out)
          have Oq := Lib.hid (own_below O.out bq.out)
          rw [← hwq]
          clear hwq
          go_cut [10] (fun v10 wz => ∃ (w4 : World) (b : Nat), w4 = wz ∧ wq.heap.size ≤ b ∧ v10 = .pointer (some ⟨b, 0, none⟩) ∧ w4.cell? ⟨b, 0, none⟩ = some (.int .i64 mx) ∧ w4.cell? ⟨b, 1, none⟩ = some (.int .i64 mn) ∧ Hid (Below wq.heap.size wq w4))
          case first =>
            obtain ⟨z0, z1, z2, z3⟩ := V.out _ HBq.out
            have ne1 := World.new_ne wq _ z0
            have ne2 := World.new_ne wq _ z2
            go_region_held3 (fun w' => w'.cell? ⟨g, kx * 2, none⟩ = some (.int .i64 lo) ∧ w'.cell? ⟨g, kx * 2 + 1, none⟩ = some (.int .i64 t) ∧ w'.cell? ⟨gb, kz * 2, none⟩ = some (.int .i64 u) ∧ w'.cell? ⟨gb, kz * 2 + 1, none⟩ = some (.int .i64 v)) (go_keep) (fail)
            all_goals go_wp2_with fail
            all_goals go_meet
            all_goals exact ⟨_, _, rfl, Nat.le_refl _, rfl, by rw [hmx.out]; exact (c2 (heap_alloc_new wq _)).1, by rw [hmn.out]; exact (c2 (heap_alloc_new wq _)).2, Lib.hid (Below.drew (new_block _))⟩
          case rest =>
          obtain ⟨w4, b, hw4, hbb, rfl, x0, x1, B4⟩ := hcut
          subst hw4
          have O4 := Lib.hid (own_below Oq.out B4.out)
          have H4 := Lib.hid (Buf.then_ HBq.out B4.out)
          clear O Oq HB HBq bq V hmx hmn B4
          by_cases c1 : mx < mn
          · rw [if_pos c1] at RN
            have d1 : decide (mx < mn) = true := decide_eq_true c1
            go_upto_region 11 with fail
            obtain ⟨wp, hwp⟩ : ∃ wp, wp = w4 := ⟨_, rfl⟩
            have bp := Lib.hid (show Below w4.heap.size w4 wp by rw [hwp]; repeat (first | exact Below.refl _ _ | refine Buf.below_drewN ?_ _))
            have k1' : wp.cell? ⟨b, 0, none⟩ = some (.int .i64 mx) := by rw [hwp]; exact x0
            have k2' : wp.cell? ⟨b, 1, none⟩ = some (.int .i64 mn) := by rw [hwp]; exact x1
            rw [← hwp]
            clear hwp
            have hb3 := Lib.hid (heap_alloc_new wp (.cells #[.int .i64 mx, .int .i64 mn] 49))
            have O3 := Lib.hid (own_below (own_below O4.out bp.out) (new_block (w := wp) (.cells #[.int .i64 mx, .int .i64 mn] 49)))
            unfold Spans at O3
            rw [hnl.out] at O3
            have one : Hid (∀ uu ∈ [Value.int .i64 mx, .int .i64 mn], uu.oneCell' = true) := Lib.hid (by intro uu hu; simp at hu; rcases hu with rfl | rfl <;> rfl)
            have hB3 := Lib.hid (show w2.heap.size ≤ (wp.alloc (.cells #[.int .i64 mx, .int .i64 mn] 49)).heap.size by have := H4.out.size; have := bp.out.size; simp; omega)
            go_wp2_with (at_builtin; refine wpList_append_lies _ rfl (.tmp 55) (.tmp 57) 23 rfl w2.heap.size 49 i0 (.agg #[.int .i64 0, .int .i64 0]) 2 16 Try.underlying23 hi hz0 hz1 hz2 rfl (by decide) _ nl (cells2 N) rfl O3.out ⟨wp.heap.size, 0, none⟩ 1 1 [.int .i64 mx, .int .i64 mn] rfl rfl (World.news_of_block hb3.out) one.out (by decide) (by unfold maxLen; omega) (by omega) hB3.out _ rfl ?_; intro gq cq w5 O2 G2 hg2 hl2)
            have O5 := Lib.hid (show Spans w5 w2.heap.size (.slice (some ⟨gq, 0, none⟩) (nl + 1) cq) (N ++ [(mx, mn)]) by
              unfold Spans
              rw [cells2_snoc, List.length_append, hnl.out]
              exact O2)
            have B5 := Lib.hid (show Below w2.heap.size w2 w5 from (Buf.then_ (Buf.then_ H4.out bp.out) (new_block (w := wp) (.cells #[.int .i64 mx, .int .i64 mn] 49))).grown G2 (by have := H4.out.size; have := bp.out.size; simp; omega) (fun b hb => (O3.out.lt b hb).1))
            clear O2 G2 hg2 hl2 O3 hb3 hB3 one bp
            go_roundw
            case rel => exact ⟨kz + 1, N ++ [(mx, mn)], by omega, by go_num, O5, RN, by rw [List.length_append]; have := hlen9.out; simp; omega, B5⟩
            case measure => simp [intOf]; omega
          · rw [if_neg c1] at RN
            have d1 : decide (mx < mn) = false := decide_eq_false c1
            go_wp2_with fail
            go_roundw
            case rel => exact ⟨kz + 1, N, by omega, by go_num, O4, RN, by have := hlen9.out; omega, H4⟩
            case measure => simp [intOf]; omega
        · have RN := RK.out.turn CA.out HP.out (by rw [← hm.out]; omega)
          replace RN := Lib.hid RN
          clear RK
          go_wp2_with fail
          go_roundw
          case rel => exact ⟨kx + 1, N, by omega, by go_num, by rw [hsm.out]; have := hlen9.out; omega, O, RN, HB⟩
          case measure => simp [intOf]; omega
    · obtain rfl : kx = n := by omega
      have RX := RI.out.stop (by rw [← hn.out]; exact Nat.le_refl _)
      have sh : N.length ≤ 20000 := by omega
      have NX := Lib.hid (refnormal_long (its_of_own O.out) RX.canon (by omega))
      go_wp2_with fail
      refine NX.out.mono ?_
      rintro e w4 ⟨⟨r, rfl, O4⟩, B4⟩
      go_wp2_with fail
      go_ret
      exact ⟨⟨_, N, rfl, own_mono O4 (Nat.le_trans B2.out.size HB.out.size), RX.congr (fun x => by rw [HA0.out, HB0.out]), sh⟩, Buf.then_ (Buf.then_ B2.out HB.out) B4⟩
end Spn
end Go.Proofs.Ytfmhfhggogjbkaa
