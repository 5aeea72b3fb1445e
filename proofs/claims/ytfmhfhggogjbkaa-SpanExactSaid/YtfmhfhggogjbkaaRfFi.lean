/- The reference's First at any numbers. -/
import Derived.Test.YtfmhfhggogjbkaaRfVa
import Derived.Test.YtfmhfhggogjbkaaRfU
import Derived.Test.YtfmhfhggogjbkaaInv
set_option linter.unusedVariables false
set_option linter.unusedSimpArgs false
namespace Go.Proofs.Ytfmhfhggogjbkaa
open Go.RowKit Dice
namespace Spn
open Sp (cells2 cells2_snoc cells2_get Spans own_kept own_below own_mono own_shape)
theorem firstL_none (l : LP) (n : Int) (h : n < 1) : firstL l n = [] := by cases l <;> simp [firstL, h]
set_option tactic.hygienic false in
set_option maxHeartbeats 8000000 in
set_option maxRecDepth 100000 in
theorem reffirst_gen {w : World} {v : Value} {L : LP} (n0 : Int) (h : Its w v L) (hI : Inside L (-9223372036854775808) 9223372036854775807) (h9 : L.length ≤ 200) (n00 : -9223372036854775808 ≤ n0) (n09 : n0 ≤ 9223372036854775807) :
    Calls Try.prog 32 #[v, .int .i64 n0] w fun e w' => (∃ r N, Is N (hasB L) ∧ N.length ≤ L.length ∧ e = .returned r ∧ Spans w' w.heap.size r (firstL N n0)) ∧ Below w.heap.size w w' := by
  obtain ⟨i0, hi, hz0, hz1, hz2⟩ := info_get infoS
  have C1 := Lib.hid (refnormal_any h h9)
  replace hI := Lib.hid hI
  clear h
  go_enter Try.func32, Try.ntmps32
  go_wp2_with fail
  refine C1.out.mono ?_
  rintro e w1 ⟨⟨r, N, rfl, O, I, hl⟩, b1⟩
  have HI := Lib.hid (I.inside hI.out)
  have HC := Lib.hid I.canon
  have HL := Lib.hid hl
  obtain ⟨xa, xc, rfl⟩ := own_len O
  obtain ⟨m, hn⟩ : ∃ m, m = N.length := ⟨_, rfl⟩
  rw [← hn] at hl O ⊢
  replace hn := Lib.hid hn
  have hn9 : m ≤ 200 := by omega
  have F := Lib.hid (fun (j : Nat) (p : Int × Int) (hj : N[j]? = some p) => own_get (L := N) (n := m) O hj)
  have B1 := Lib.hid b1
  have A0 := Lib.hid (Below.refl w1.heap.size w1)
  have Z0 : Hid (Spans w1 w1.heap.size (.slice none 0 0) []) := Lib.hid (World.ownsRow_nil _ _ _ _)
  replace I := Lib.hid I
  clear O b1 C1 hl h9
  go_wp2_with fail
  go_loopw [6, 7, 1] (fun s i x wr => ∃ (kx : Nat) (u : Int) (S : LP), kx ≤ m ∧ i = .int .i64 kx ∧ x = .int .i64 u ∧ -9223372036854775808 ≤ u ∧ u ≤ 9223372036854775807 ∧ S.length ≤ kx ∧ Hid (S ++ firstL (N.drop kx) u = firstL N n0) ∧ Hid (Spans wr w1.heap.size s S) ∧ Hid (Below w1.heap.size w1 wr)) (fun _ i _ _ => m - (intOf i).toNat)
  case atStart => exact ⟨0, n0, [], Nat.zero_le _, rfl, rfl, n00, n09, by simp, Lib.hid rfl, Z0, A0⟩
  case round =>
    clear A0 Z0
    obtain ⟨kx, u, S, hk, rfl, rfl, u0, u9, hSl, HF, OO, HB⟩ := hrel
    obtain ⟨sa, sc, rfl⟩ := own_len OO.out
    obtain ⟨nl, hnl'⟩ : ∃ nl, S.length = nl := ⟨_, rfl⟩
    have O4 := Lib.hid OO.out
    unfold Spans at O4
    rw [hnl'] at O4 OO hSl ⊢
    have hnl := Lib.hid hnl'
    clear hnl'
    by_cases hlt : kx < m
    · obtain ⟨⟨f, t⟩, hp⟩ : ∃ p, N[kx]? = some p := ⟨N[kx]'(by rw [← hn.out]; exact hlt), List.getElem?_eq_getElem _⟩
      have hstep := firstL_step hp u
      obtain ⟨hz1_, hz2_, g, hxa, hg, _, q0, q1, _⟩ := F.out _ _ hp
      have i1 := HI.out _ (List.mem_of_getElem? hp)
      have i2 := HC.out.at hp
      have KF := Lib.hid fun wx (hb : Below wr.heap.size wr wx) => ((Buf.then_ HB.out hb).cell (p := ⟨g, kx * 2, none⟩) hg).trans q0
      have k0 := (HB.out.cell (p := ⟨g, _, none⟩) hg).trans q0
      have k1 := (HB.out.cell (p := ⟨g, _, none⟩) hg).trans q1
      dsimp only at k0 k1 i1 i2 KF
      subst hxa
      have b1 : (kx : Int) < (m : Int) := by omega
      replace hp := Lib.hid hp
      clear q0 q1 hz1_
      by_cases hu : 0 < u
      · have d1 : decide (0 < u) = true := decide_eq_true hu
        have hu' : ¬ u < 1 := by omega
        obtain ⟨T, hT⟩ : ∃ T, T = t % 18446744073709551616 := ⟨_, rfl⟩
        obtain ⟨Fw, hFw⟩ : ∃ Fw, Fw = f % 18446744073709551616 := ⟨_, rfl⟩
        have v1 : IntKind.u64.wrap t = T := by rw [hT]; simp [IntKind.wrap, IntKind.bits, IntKind.signed]
        have v2 : IntKind.u64.wrap f = Fw := by rw [hFw]; simp [IntKind.wrap, IntKind.bits, IntKind.signed]
        have v3 : IntKind.u64.wrap (T - Fw) = t - f := by simp [IntKind.wrap, IntKind.bits, IntKind.signed]; omega
        have v4 : IntKind.u64.wrap u = u := by simp [IntKind.wrap, IntKind.bits, IntKind.signed]; omega
        clear hT hFw
        by_cases hd : u < t - f
        · have E1 : Hid ((S ++ [(f, f + u)]) ++ firstL (N.drop (kx + 1)) 0 = firstL N n0) := Lib.hid (by rw [← HF.out, hstep, if_neg hu', if_pos hd, firstL_none _ 0 (by omega)]; simp)
          clear HF hstep
          have d2 : decide (u < t - f) = true := decide_eq_true hd
          go_wp2_with fail
          go_quiet (fail)
          go_upto_region 8 with fail
          have hw0 : Below wr.heap.size wr (wr.drewN nq).drew := (Buf.below_drewN (Below.refl _ _) _).drew
          refine wp_region_noPanic ?_
          refine wp_region_any (by kernel_rfl) ?_
          refine Inv.wpAny_inv (fun k => k == 15 || k == 16) [38, 39, 40, 41, 42, 43, 44, 45, 46, 47, 48, 49, 50, 51, 52] (fun w' => Below wr.heap.size wr w') (fun _ w1 w2 => Below w1.heap.size w1 w2) (fun k => ([fun v_ w_ => v_ = .slice sa nl sc, fun v_ w_ => v_ = .slice (some ⟨g, 0, none⟩) m xc, fun v_ w_ => v_ = .int .i64 (kx : Int), fun v_ w_ => v_ = .pointer (some ⟨g, kx * 2, none⟩), fun v_ w_ => v_ = .pointer (some ⟨g, kx * 2, none⟩), fun v_ w_ => v_ = .int .i64 f, fun v_ w_ => v_ = .slice (some ⟨g, 0, none⟩) m xc, fun v_ w_ => v_ = .int .i64 (kx : Int), fun v_ w_ => v_ = .pointer (some ⟨g, kx * 2, none⟩), fun v_ w_ => v_ = .pointer (some ⟨g, kx * 2, none⟩), fun v_ w_ => v_ = .int .i64 f, fun v_ w_ => v_ = .int .i64 u, fun v_ w_ => v_ = .int .i64 (f + u), fun v_ w_ => v_ = .agg #[.int .i64 f, .int .i64 (f + u)], fun v_ w_ => ∃ b, v_ = .slice (some ⟨b, 0, none⟩) 1 1 ∧ w_.heap[b]? = some (.cells #[.int .i64 f, .int .i64 (f + u)] 49 (0, 0)), fun v_ w_ => True, fun v_ w_ => True] : List (Value → World → Prop)).getD k (fun _ _ => True)) _ (fun σ => by simp only [Inv.putAll, List.foldl_cons, List.foldl_nil, Act.put, List.setIfInBounds_toArray, List.set_cons_zero, List.set_cons_succ]; rfl) (by kernel_rfl) (by kernel_rfl) ?_ hw0 ?_ ?_ 2 #[true, true, true, true, true, true, true, true, true, true, true, true, true, true, true, false, false] (by kernel_rfl) (by kernel_rfl) ?_
          · intro j k v w1 w2 hjk hv hr
            rcases k with _ | k
            · exact hv
            rcases k with _ | k
            · exact hv
            rcases k with _ | k
            · exact hv
            rcases k with _ | k
            · exact hv
            rcases k with _ | k
            · exact hv
            rcases k with _ | k
            · exact hv
            rcases k with _ | k
            · exact hv
            rcases k with _ | k
            · exact hv
            rcases k with _ | k
            · exact hv
            rcases k with _ | k
            · exact hv
            rcases k with _ | k
            · exact hv
            rcases k with _ | k
            · exact hv
            rcases k with _ | k
            · exact hv
            rcases k with _ | k
            · exact hv
            rcases k with _ | k
            · exact by obtain ⟨b, e, h⟩ := hv; exact ⟨b, e, (hr.block b (Array.getElem?_eq_some_iff.1 h).1).trans h⟩
            rcases k with _ | k
            · exact hv
            rcases k with _ | k
            · exact hv
            · exact hv
          · intro k t hl hd
            rcases k with _ | k
            · exact absurd hl (by decide +kernel)
            rcases k with _ | k
            · exact absurd hl (by decide +kernel)
            rcases k with _ | k
            · exact absurd hl (by decide +kernel)
            rcases k with _ | k
            · exact absurd hl (by decide +kernel)
            rcases k with _ | k
            · exact absurd hl (by decide +kernel)
            rcases k with _ | k
            · exact absurd hl (by decide +kernel)
            rcases k with _ | k
            · exact absurd hl (by decide +kernel)
            rcases k with _ | k
            · exact absurd hl (by decide +kernel)
            rcases k with _ | k
            · exact absurd hl (by decide +kernel)
            rcases k with _ | k
            · exact absurd hl (by decide +kernel)
            rcases k with _ | k
            · exact absurd hl (by decide +kernel)
            rcases k with _ | k
            · exact absurd hl (by decide +kernel)
            rcases k with _ | k
            · exact absurd hl (by decide +kernel)
            rcases k with _ | k
            · exact absurd hl (by decide +kernel)
            rcases k with _ | k
            · exact absurd hl (by decide +kernel)
            rcases k with _ | k
            · exact absurd hl (by decide +kernel)
            rcases k with _ | k
            · exact absurd hl (by decide +kernel)
            · simp at hd
          · show Inv.Steps _ _ _ _ _ _ _ _ [0, 1, 2, 3, 4, 5, 6, 7, 8, 9, 10, 11, 12, 13, 14]
            refine Inv.Steps.go (by decide) (by rfl) (fun σ wx hw hd K hK => ?_) ?_
            · simp only [List.getElem_toArray, List.getElem_cons_zero, List.getElem_cons_succ, Act.put, List.setIfInBounds_toArray, List.set_cons_zero, List.set_cons_succ] at hK ⊢
              go_simp
              exact hK.out _ _ hw (Below.refl _ _) (rfl)
            refine Inv.Steps.go (by decide) (by rfl) (fun σ wx hw hd K hK => ?_) ?_
            · simp only [List.getElem_toArray, List.getElem_cons_zero, List.getElem_cons_succ, Act.put, List.setIfInBounds_toArray, List.set_cons_zero, List.set_cons_succ] at hK ⊢
              go_simp
              exact hK.out _ _ hw (Below.refl _ _) (rfl)
            refine Inv.Steps.go (by decide) (by rfl) (fun σ wx hw hd K hK => ?_) ?_
            · simp only [List.getElem_toArray, List.getElem_cons_zero, List.getElem_cons_succ, Act.put, List.setIfInBounds_toArray, List.set_cons_zero, List.set_cons_succ] at hK ⊢
              go_simp
              exact hK.out _ _ hw (Below.refl _ _) (rfl)
            refine Inv.Steps.go (by decide) (by rfl) (fun σ wx hw hd K hK => ?_) ?_
            · obtain e39 : (σ 39) = .slice (some ⟨g, 0, none⟩) m xc := hd 1 (some 39) (by kernel_rfl) (by rfl)
              obtain e40 : (σ 40) = .int .i64 (kx : Int) := hd 2 (some 40) (by kernel_rfl) (by rfl)
              simp only [List.getElem_toArray, List.getElem_cons_zero, List.getElem_cons_succ, Act.put, List.setIfInBounds_toArray, List.set_cons_zero, List.set_cons_succ, e39, e40] at hK ⊢
              go_simp
              exact hK.out _ _ hw (Below.refl _ _) (rfl)
            refine Inv.Steps.go (by decide) (by rfl) (fun σ wx hw hd K hK => ?_) ?_
            · obtain e41 : (σ 41) = .pointer (some ⟨g, kx * 2, none⟩) := hd 3 (some 41) (by kernel_rfl) (by rfl)
              simp only [List.getElem_toArray, List.getElem_cons_zero, List.getElem_cons_succ, Act.put, List.setIfInBounds_toArray, List.set_cons_zero, List.set_cons_succ, e41] at hK ⊢
              go_simp
              exact hK.out _ _ hw (Below.refl _ _) (rfl)
            refine Inv.Steps.go (by decide) (by rfl) (fun σ wx hw hd K hK => ?_) ?_
            · obtain e42 : (σ 42) = .pointer (some ⟨g, kx * 2, none⟩) := hd 4 (some 42) (by kernel_rfl) (by rfl)
              simp only [List.getElem_toArray, List.getElem_cons_zero, List.getElem_cons_succ, Act.put, List.setIfInBounds_toArray, List.set_cons_zero, List.set_cons_succ, e42] at hK ⊢
              have zc := KF.out _ hw
              go_simp
              exact hK.out _ _ hw (Below.refl _ _) (rfl)
            refine Inv.Steps.go (by decide) (by rfl) (fun σ wx hw hd K hK => ?_) ?_
            · simp only [List.getElem_toArray, List.getElem_cons_zero, List.getElem_cons_succ, Act.put, List.setIfInBounds_toArray, List.set_cons_zero, List.set_cons_succ] at hK ⊢
              go_simp
              exact hK.out _ _ hw (Below.refl _ _) (rfl)
            refine Inv.Steps.go (by decide) (by rfl) (fun σ wx hw hd K hK => ?_) ?_
            · simp only [List.getElem_toArray, List.getElem_cons_zero, List.getElem_cons_succ, Act.put, List.setIfInBounds_toArray, List.set_cons_zero, List.set_cons_succ] at hK ⊢
              go_simp
              exact hK.out _ _ hw (Below.refl _ _) (rfl)
            refine Inv.Steps.go (by decide) (by rfl) (fun σ wx hw hd K hK => ?_) ?_
            · obtain e44 : (σ 44) = .slice (some ⟨g, 0, none⟩) m xc := hd 6 (some 44) (by kernel_rfl) (by rfl)
              obtain e45 : (σ 45) = .int .i64 (kx : Int) := hd 7 (some 45) (by kernel_rfl) (by rfl)
              simp only [List.getElem_toArray, List.getElem_cons_zero, List.getElem_cons_succ, Act.put, List.setIfInBounds_toArray, List.set_cons_zero, List.set_cons_succ, e44, e45] at hK ⊢
              go_simp
              exact hK.out _ _ hw (Below.refl _ _) (rfl)
            refine Inv.Steps.go (by decide) (by rfl) (fun σ wx hw hd K hK => ?_) ?_
            · obtain e46 : (σ 46) = .pointer (some ⟨g, kx * 2, none⟩) := hd 8 (some 46) (by kernel_rfl) (by rfl)
              simp only [List.getElem_toArray, List.getElem_cons_zero, List.getElem_cons_succ, Act.put, List.setIfInBounds_toArray, List.set_cons_zero, List.set_cons_succ, e46] at hK ⊢
              go_simp
              exact hK.out _ _ hw (Below.refl _ _) (rfl)
            refine Inv.Steps.go (by decide) (by rfl) (fun σ wx hw hd K hK => ?_) ?_
            · obtain e47 : (σ 47) = .pointer (some ⟨g, kx * 2, none⟩) := hd 9 (some 47) (by kernel_rfl) (by rfl)
              simp only [List.getElem_toArray, List.getElem_cons_zero, List.getElem_cons_succ, Act.put, List.setIfInBounds_toArray, List.set_cons_zero, List.set_cons_succ, e47] at hK ⊢
              have zc := KF.out _ hw
              go_simp
              exact hK.out _ _ hw (Below.refl _ _) (rfl)
            refine Inv.Steps.go (by decide) (by rfl) (fun σ wx hw hd K hK => ?_) ?_
            · simp only [List.getElem_toArray, List.getElem_cons_zero, List.getElem_cons_succ, Act.put, List.setIfInBounds_toArray, List.set_cons_zero, List.set_cons_succ] at hK ⊢
              go_simp
              exact hK.out _ _ hw (Below.refl _ _) (rfl)
            refine Inv.Steps.go (by decide) (by rfl) (fun σ wx hw hd K hK => ?_) ?_
            · obtain e48 : (σ 48) = .int .i64 f := hd 10 (some 48) (by kernel_rfl) (by rfl)
              obtain e49 : (σ 49) = .int .i64 u := hd 11 (some 49) (by kernel_rfl) (by rfl)
              simp only [List.getElem_toArray, List.getElem_cons_zero, List.getElem_cons_succ, Act.put, List.setIfInBounds_toArray, List.set_cons_zero, List.set_cons_succ, e48, e49] at hK ⊢
              go_simp
              exact hK.out _ _ hw (Below.refl _ _) (congrArg (Value.int .i64) (IntWalk.i64_in _ (by omega)))
            refine Inv.Steps.go (by decide) (by rfl) (fun σ wx hw hd K hK => ?_) ?_
            · obtain e43 : (σ 43) = .int .i64 f := hd 5 (some 43) (by kernel_rfl) (by rfl)
              obtain e50 : (σ 50) = .int .i64 (f + u) := hd 12 (some 50) (by kernel_rfl) (by rfl)
              simp only [List.getElem_toArray, List.getElem_cons_zero, List.getElem_cons_succ, Act.put, List.setIfInBounds_toArray, List.set_cons_zero, List.set_cons_succ, e43, e50] at hK ⊢
              go_simp
              exact hK.out _ _ hw (Below.refl _ _) (rfl)
            refine Inv.Steps.go (by decide) (by rfl) (fun σ wx hw hd K hK => ?_) ?_
            · obtain e51 : (σ 51) = .agg #[.int .i64 f, .int .i64 (f + u)] := hd 13 (some 51) (by kernel_rfl) (by rfl)
              simp only [List.getElem_toArray, List.getElem_cons_zero, List.getElem_cons_succ, Act.put, List.setIfInBounds_toArray, List.set_cons_zero, List.set_cons_succ, e51] at hK ⊢
              go_simp
              exact hK.out _ _ (Buf.then_ hw (new_block _)) (new_block _) (⟨_, rfl, heap_alloc_new _ _⟩)
            exact Inv.Steps.nil
          · intro σ wx hw hd
            obtain e38 : (σ 38) = .slice sa nl sc := hd 0 (some 38) (by rfl) (by rfl)
            obtain ⟨bS, e52, PS⟩ : ∃ b, (σ 52) = .slice (some ⟨b, 0, none⟩) 1 1 ∧ wx.heap[b]? = some (.cells #[.int .i64 f, .int .i64 (f + u)] 49 (0, 0)) := hd 14 (some 52) (by rfl) (by rfl)
            simp only [e38, e52]
            refine Inv.one (i := 15) (by decide) (by kernel_rfl) (by rfl) (fun K hK => ?_)
            simp only [List.getElem_toArray, List.getElem_cons_zero, List.getElem_cons_succ, Act.put, List.setIfInBounds_toArray, List.set_cons_zero, List.set_cons_succ] at hK ⊢
            have IK : Its wx (.slice (some ⟨bS, 0, none⟩) 1 1) [(f, f + u)] := .inr ⟨bS, 1, rfl, by simp, (Array.getElem?_eq_some_iff.1 PS).1, fun k p hp => by cases k with | zero => (simp at hp; subst hp; exact c2 PS) | succ k => simp at hp⟩
            refine wp_spans (.tmp 38) (.tmp 52) rfl (by simp [Act.eval]) (by simp [Act.eval]) (own_below OO.out hw) IK (Nat.le_trans HB.out.size hw.size) (by have := hnl.out; simp; omega) ?_
            intro v' w' O2 G2
            refine hK.out _ _ ?_
            clear hK K hd IK PS
            have B5 := Lib.hid ((Buf.then_ HB.out hw).grown G2 (Nat.le_trans HB.out.size hw.size) (fun b hb => ((own_below OO.out hw).lt b hb).1))
            have O5 := Lib.hid O2
            clear O2 G2 hw
            refine Inv.take (i := 16) (v := v') (by decide) rfl (by kernel_rfl) (by kernel_rfl) (by kernel_rfl) (fun _ _ _ h => h) (by rfl) (fun w' => ?_) ?_
            · simp only [List.getElem_toArray, List.getElem_cons_zero, List.getElem_cons_succ]
              go_simp
            try simp only [Act.put, List.setIfInBounds_toArray, List.set_cons_zero, List.set_cons_succ]
            refine Inv.done (by kernel_rfl) (NoPanic.normal ?_)
            go_wp2_with fail
            go_roundw
            case rel => exact ⟨kx + 1, 0, S ++ [(f, f + u)], by omega, by go_num, rfl, by omega, by omega, by rw [List.length_append]; have := hnl.out; simp; omega, E1, O5, B5⟩
            case measure => simp [intOf]; omega
        · have E1 : Hid ((S ++ [(f, t)]) ++ firstL (N.drop (kx + 1)) (u - (t - f)) = firstL N n0) := Lib.hid (by rw [← HF.out, hstep, if_neg hu', if_neg hd]; simp)
          clear HF hstep
          have d2 : decide (u < t - f) = false := decide_eq_false hd
          have v6 : IntKind.i64.wrap (t - f) = t - f := IntWalk.i64_in _ (by omega)
          have v7 : IntKind.i64.wrap (u - (t - f)) = u - (t - f) := IntWalk.i64_in _ (by omega)
          go_wp2_with fail
          go_quiet (fail)
          go_upto_region 10 with fail
          obtain ⟨wp, hwp⟩ : ∃ wp, wp = wr.drewN nq := ⟨_, rfl⟩
          have bp := Lib.hid (show Below wr.heap.size wr wp by rw [hwp]; exact Buf.below_drewN (Below.refl _ _) _)
          have j0 : wp.cell? ⟨g, kx * 2, none⟩ = some (.int .i64 f) := by rw [hwp]; exact k0
          have j1 : wp.cell? ⟨g, kx * 2 + 1, none⟩ = some (.int .i64 t) := by rw [hwp]; exact k1
          rw [← hwp]
          clear hwp k0 k1
          have hb3 := Lib.hid (heap_alloc_new wp (.cells #[.int .i64 f, .int .i64 t] 49))
          have O3 := Lib.hid (own_below (own_below O4.out bp.out) (new_block (w := wp) (.cells #[.int .i64 f, .int .i64 t] 49)))
          have one : Hid (∀ u ∈ [Value.int .i64 f, .int .i64 t], u.oneCell' = true) := Lib.hid (by intro u hu; simp at hu; rcases hu with rfl | rfl <;> rfl)
          have hB3 := Lib.hid (show w1.heap.size ≤ (wp.alloc (.cells #[.int .i64 f, .int .i64 t] 49)).heap.size by have := HB.out.size; have := bp.out.size; simp; omega)
          go_wp2_with (at_builtin; refine wpList_append_lies _ rfl (.tmp 54) (.tmp 59) 23 rfl w1.heap.size 49 i0 (.agg #[.int .i64 0, .int .i64 0]) 2 16 Try.underlying23 hi hz0 hz1 hz2 rfl (by decide) _ nl (cells2 S) rfl O3.out ⟨wp.heap.size, 0, none⟩ 1 1 [.int .i64 f, .int .i64 t] rfl rfl (World.news_of_block hb3.out) one.out (by decide) (by unfold maxLen; omega) (by omega) hB3.out _ rfl ?_; intro gq cq w5 O2 G2 hg2 hl2)
          have O5 := Lib.hid (show Spans w5 w1.heap.size (.slice (some ⟨gq, 0, none⟩) (nl + 1) cq) (S ++ [(f, t)]) by
            unfold Spans
            rw [cells2_snoc, List.length_append, hnl.out]
            exact O2)
          have B5 := Lib.hid (show Below w1.heap.size w1 w5 from (Buf.then_ (Buf.then_ HB.out bp.out) (new_block (w := wp) (.cells #[.int .i64 f, .int .i64 t] 49))).grown G2 (by have := HB.out.size; have := bp.out.size; simp; omega) (fun b hb => (O3.out.lt b hb).1))
          clear O2 G2 hg2 hl2 O3 hb3 hB3 one j0 j1 bp O4 OO HB
          go_roundw
          case rel => exact ⟨kx + 1, u - (t - f), S ++ [(f, t)], by omega, by go_num, rfl, by omega, by omega, by rw [List.length_append, hnl.out]; simp; omega, E1, O5, B5⟩
          case measure => simp [intOf]; omega
      · have d1 : decide (0 < u) = false := decide_eq_false hu
        have e : Hid (firstL N n0 = S) := Lib.hid (by rw [← HF.out, firstL_none _ u (by omega), List.append_nil])
        go_wp2_with fail
        go_ret
        exact ⟨⟨_, N, I.out, HL.out, rfl, by rw [e.out]; unfold Spans; rw [hnl.out]; exact own_mono O4.out B1.out.size⟩, Buf.then_ B1.out HB.out⟩
    · obtain rfl : kx = m := by omega
      have e : Hid (firstL N n0 = S) := Lib.hid (by rw [← HF.out, List.drop_of_length_le (by rw [hn.out]; exact Nat.le_refl _)]; simp [firstL])
      go_wp2_with fail
      go_ret
      exact ⟨⟨_, N, I.out, HL.out, rfl, by rw [e.out]; unfold Spans; rw [hnl.out]; exact own_mono O4.out B1.out.size⟩, Buf.then_ B1.out HB.out⟩
end Spn
end Go.Proofs.Ytfmhfhggogjbkaa
