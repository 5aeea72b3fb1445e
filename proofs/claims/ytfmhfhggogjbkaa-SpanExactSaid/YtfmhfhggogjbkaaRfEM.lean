/- The reference's Minus, Meet and Cut at canonical sets. -/
import Derived.Test.YtfmhfhggogjbkaaRfE
import Derived.Test.YtfmhfhggogjbkaaRfM
import Derived.Test.YtfmhfhggogjbkaaRcvA
import Derived.Lib.MinMax
import Derived.Deep.RegionHeld3
set_option linter.unusedVariables false
set_option linter.unusedSimpArgs false
namespace Go.Proofs.Ytfmhfhggogjbkaa
open Go.RowKit Dice
namespace Spn
open Sp (cells2 cells2_snoc cells2_get Spans own_kept own_below own_mono own_shape)
set_option maxHeartbeats 4000000 in
set_option maxRecDepth 100000 in
theorem refmeet_canon {w : World} {va vb : Value} {A B : LP} (ha : Its w va A) (hb : Its w vb B) (cA : Canon A) (cB : Canon B) (iA : Inside A 0 64) (iB : Inside B 0 64) (h9a : A.length ≤ 100) (h9b : B.length ≤ 100) :
    Calls Try.prog 19 #[va, vb] w fun e w' => (∃ r N, e = .returned r ∧ Spans w' w.heap.size r N ∧ Is N (fun x => hasB A x && hasB B x) ∧ N.length ≤ 32) ∧ Below w.heap.size w w' := by
  obtain ⟨i0, hi, hz0, hz1, hz2⟩ := info_get infoS
  have NA := Lib.hid (refnormal_canon ha cA (by omega))
  have NB0 := Lib.hid fun (w' : World) (h' : Below w.heap.size w w') => refnormal_canon (hb.keep h') cB (by omega)
  obtain ⟨n, hn⟩ : ∃ n, n = A.length := ⟨_, rfl⟩
  obtain ⟨m, hm⟩ : ∃ m, m = B.length := ⟨_, rfl⟩
  rw [← hn] at h9a
  rw [← hm] at h9b
  replace hn := Lib.hid hn
  replace hm := Lib.hid hm
  have CA := Lib.hid cA
  have CB := Lib.hid cB
  have IA := Lib.hid iA
  have IB := Lib.hid iB
  clear ha hb cA cB iA iB
  go_enter Try.func19, Try.ntmps19
  go_wp2_with fail
  refine NA.out.mono ?_
  rintro e w1 ⟨⟨r, rfl, OA⟩, hb1⟩
  obtain ⟨xa, xc, rfl⟩ := own_len OA
  rw [← hn.out] at OA ⊢
  have NB := Lib.hid (NB0.out _ hb1)
  have FA0 := Lib.hid (fun (j : Nat) (p : Int × Int) (hj : A[j]? = some p) => own_get (L := A) (n := n) OA hj)
  have B1 := Lib.hid hb1
  clear OA hb1 NA NB0
  go_wp2_with fail
  refine NB.out.mono ?_
  rintro e w2 ⟨⟨r, rfl, OB⟩, hb2⟩
  obtain ⟨ya, yc, rfl⟩ := own_len OB
  rw [← hm.out] at OB ⊢
  have FB := Lib.hid (fun (j : Nat) (p : Int × Int) (hj : B[j]? = some p) => own_get (L := B) (n := m) OB hj)
  have FA := Lib.hid (fun (j : Nat) (p : Int × Int) (hj : A[j]? = some p) => show n ≤ xc ∧ ∃ g, xa = some ⟨g, 0, none⟩ ∧ g < w2.heap.size ∧ w2.cell? ⟨g, j * 2, none⟩ = some (.int .i64 p.1) ∧ w2.cell? ⟨g, j * 2 + 1, none⟩ = some (.int .i64 p.2) from by
    obtain ⟨_, h2, g, e, hg, _, c0, c1, _⟩ := FA0.out j p hj
    exact ⟨h2, g, e, Nat.lt_of_lt_of_le hg hb2.size, (hb2.cell (p := ⟨g, _, none⟩) hg).trans c0, (hb2.cell (p := ⟨g, _, none⟩) hg).trans c1⟩)
  have B2 := Lib.hid (Buf.then_ B1.out hb2)
  have B0 := Lib.hid (Below.refl w2.heap.size w2)
  clear OB hb2 NB FA0 B1
  have Z0 : Hid (Spans w2 w2.heap.size (.slice none 0 0) []) := Lib.hid (World.ownsRow_nil _ _ _ _)
  have R0 := Lib.hid (Re.start A B)
  go_wp2_with fail
  go_loopw [7, 8] (fun s i wr => ∃ (kx : Nat) (N : LP), kx ≤ n ∧ i = .int .i64 kx ∧ Hid (Spans wr w2.heap.size s N) ∧ Hid (Re A B kx 0 N) ∧ Hid (Below w2.heap.size w2 wr)) (fun _ i _ => n - (intOf i).toNat)
  case atStart => exact ⟨0, [], Nat.zero_le _, rfl, Z0, R0, B0⟩
  case round =>
    clear B0 Z0 R0
    obtain ⟨kx, N, hk, rfl, O, RI, HB⟩ := hrel
    obtain ⟨sa, sc, rfl⟩ := own_len O.out
    by_cases hlt : kx < n
    · obtain ⟨wo, hwo⟩ : ∃ wo, wo = wr := ⟨_, rfl⟩
      subst hwo
      obtain ⟨⟨lo, t⟩, hp⟩ : ∃ p, A[kx]? = some p := ⟨A[kx]'(by rw [← hn.out]; exact hlt), List.getElem?_eq_getElem _⟩
      obtain ⟨hz2_, g, hxa, hg, q0, q1⟩ := FA.out _ _ hp
      have hin := IA.out _ (List.mem_of_getElem? hp)
      have lt := CA.out.at hp
      dsimp only at hin lt q0 q1
      subst hxa
      have kn : (kx : Int) < (n : Int) := by omega
      have RK := RI
      have HP := Lib.hid hp
      obtain ⟨i1, i2⟩ := hin
      clear q0 q1 hp
      go_wp2_with fail
      go_loopw [7, 9] (fun s v wr => ∃ (kz : Nat) (N : LP), kz ≤ m ∧ v = .int .i64 kz ∧ Hid (Spans wr w2.heap.size s N) ∧ Hid (Re A B kx kz N) ∧ Hid (Below w2.heap.size w2 wr)) (fun _ v _ => m - (intOf v).toNat)
      case atStart => exact ⟨0, N, Nat.zero_le _, rfl, O, RK, HB⟩
      case round =>
        have HBo := HB
        clear O RI RK HB
        obtain ⟨kz, N, hkz, rfl, O, RK, HB⟩ := hrel
        have hr9 := Re.short RK.out IA.out
        obtain ⟨sa, sc, rfl⟩ := own_len O.out
        obtain ⟨nl, hnl'⟩ : ∃ nl, N.length = nl := ⟨_, rfl⟩
        rw [hnl'] at O hr9
        try rw [hnl']
        have hnl := Lib.hid hnl'
        clear hnl'
        by_cases hlz : kz < m
        · obtain ⟨⟨u, v⟩, hq⟩ : ∃ p, B[kz]? = some p := ⟨B[kz]'(by rw [← hm.out]; exact hlz), List.getElem?_eq_getElem _⟩
          obtain ⟨hz1_, hz3_, gb, hya, hgb, _, q0, q1, _⟩ := FB.out _ _ hq
          obtain ⟨_, g', e, _, c0, c1⟩ := FA.out _ _ HP.out
          cases e
          have hinb := IB.out _ (List.mem_of_getElem? hq)
          have uv := CB.out.at hq
          dsimp only at hinb uv
          have V : Hid (∀ w', Below w2.heap.size w2 w' → w'.cell? ⟨g, kx * 2, none⟩ = some (.int .i64 lo) ∧ w'.cell? ⟨g, kx * 2 + 1, none⟩ = some (.int .i64 t) ∧ w'.cell? ⟨gb, kz * 2, none⟩ = some (.int .i64 u) ∧ w'.cell? ⟨gb, kz * 2 + 1, none⟩ = some (.int .i64 v)) := Lib.hid fun w' h => ⟨(h.cell (p := ⟨g, _, none⟩) hg).trans c0, (h.cell (p := ⟨g, _, none⟩) hg).trans c1, (h.cell (p := ⟨gb, _, none⟩) hgb).trans q0, (h.cell (p := ⟨gb, _, none⟩) hgb).trans q1⟩
          subst hya
          have km : (kz : Int) < (m : Int) := by omega
          obtain ⟨u1, u2⟩ := hinb
          have HQ := Lib.hid hq
          obtain ⟨mx, hmx⟩ : ∃ mx, mx = max lo u := ⟨_, rfl⟩
          obtain ⟨mn, hmn⟩ : ∃ mn, mn = min t v := ⟨_, rfl⟩
          have RN := Re.next RK.out CA.out CB.out HP.out HQ.out
          simp only [← hmx, ← hmn] at RN
          have mx0 : 0 ≤ mx := by omega
          have mx9 : mx ≤ 64 := by omega
          have mn0 : 0 ≤ mn := by omega
          have mn9 : mn ≤ 64 := by omega
          replace hmx := Lib.hid hmx
          replace hmn := Lib.hid hmn
          replace RN := Lib.hid RN
          clear c0 c1 q0 q1 hq hz1_ RK HQ
          go_upto_region 9 with fail
          obtain ⟨wq, hwq⟩ : ∃ wq, wq = wr := ⟨_, rfl⟩
          have bq := Lib.hid (show Below wr.heap.size wr wq by rw [hwq]; exact Below.refl _ _)
          have HBq := Lib.hid (Buf.then_ HB.out bq.out)
          have Oq := Lib.hid (own_below O.out bq.out)
          rw [← hwq]
          clear hwq
          go_cut [10] (fun v10 wz => ∃ (w4 : World) (b : Nat), w4 = wz ∧ wq.heap.size ≤ b ∧ v10 = .pointer (some ⟨b, 0, none⟩) ∧ w4.cell? ⟨b, 0, none⟩ = some (.int .i64 mx) ∧ w4.cell? ⟨b, 1, none⟩ = some (.int .i64 mn) ∧ Hid (Below wq.heap.size wq w4))
          case first =>
            obtain ⟨z0, z1, z2, z3⟩ := V.out _ HBq.out
            have ne1 := World.new_ne wq _ z0
            have ne2 := World.new_ne wq _ z2
            go_region_held3 (fun w' => w'.cell? ⟨g, kx * 2, none⟩ = some (.int .i64 lo) ∧ w'.cell? ⟨g, kx * 2 + 1, none⟩ = some (.int .i64 t) ∧ w'.cell? ⟨gb, kz * 2, none⟩ = some (.int .i64 u) ∧ w'.cell? ⟨gb, kz * 2 + 1, none⟩ = some (.int .i64 v)) (go_keep) (fail)
            all_goals go_wp2_with fail
            all_goals go_meet
            all_goals exact ⟨_, _, rfl, Nat.le_refl _, rfl, by rw [hmx.out]; exact (c2 (heap_alloc_new wq _)).1, by rw [hmn.out]; exact (c2 (heap_alloc_new wq _)).2, Lib.hid (Below.drew (new_block _))⟩
          case rest =>
          obtain ⟨w4, b, hw4, hbb, rfl, x0, x1, B4⟩ := hcut
          subst hw4
          have O4 := Lib.hid (own_below Oq.out B4.out)
          have H4 := Lib.hid (Buf.then_ HBq.out B4.out)
          clear O Oq HB HBq bq V hmx hmn B4
          by_cases c1 : mx < mn
          · rw [if_pos c1] at RN
            have d1 : decide (mx < mn) = true := decide_eq_true c1
            go_upto_region 11 with fail
            obtain ⟨wp, hwp⟩ : ∃ wp, wp = w4 := ⟨_, rfl⟩
            have bp := Lib.hid (show Below w4.heap.size w4 wp by rw [hwp]; repeat (first | exact Below.refl _ _ | refine Buf.below_drewN ?_ _))
            have k1' : wp.cell? ⟨b, 0, none⟩ = some (.int .i64 mx) := by rw [hwp]; exact x0
            have k2' : wp.cell? ⟨b, 1, none⟩ = some (.int .i64 mn) := by rw [hwp]; exact x1
            rw [← hwp]
            clear hwp
            have hb3 := Lib.hid (heap_alloc_new wp (.cells #[.int .i64 mx, .int .i64 mn] 49))
            have O3 := Lib.hid (own_below (own_below O4.out bp.out) (new_block (w := wp) (.cells #[.int .i64 mx, .int .i64 mn] 49)))
            unfold Spans at O3
            rw [hnl.out] at O3
            have one : Hid (∀ uu ∈ [Value.int .i64 mx, .int .i64 mn], uu.oneCell' = true) := Lib.hid (by intro uu hu; simp at hu; rcases hu with rfl | rfl <;> rfl)
            have hB3 := Lib.hid (show w2.heap.size ≤ (wp.alloc (.cells #[.int .i64 mx, .int .i64 mn] 49)).heap.size by have := H4.out.size; have := bp.out.size; simp; omega)
            go_wp2_with (at_builtin; refine wpList_append_lies _ rfl (.tmp 55) (.tmp 57) 23 rfl w2.heap.size 49 i0 (.agg #[.int .i64 0, .int .i64 0]) 2 16 Try.underlying23 hi hz0 hz1 hz2 rfl (by decide) _ nl (cells2 N) rfl O3.out ⟨wp.heap.size, 0, none⟩ 1 1 [.int .i64 mx, .int .i64 mn] rfl rfl (World.news_of_block hb3.out) one.out (by decide) (by unfold maxLen; omega) (by omega) hB3.out _ rfl ?_; intro gq cq w5 O2 G2 hg2 hl2)
            have O5 := Lib.hid (show Spans w5 w2.heap.size (.slice (some ⟨gq, 0, none⟩) (nl + 1) cq) (N ++ [(mx, mn)]) by
              unfold Spans
              rw [cells2_snoc, List.length_append, hnl.out]
              exact O2)
            have B5 := Lib.hid (show Below w2.heap.size w2 w5 from (Buf.then_ (Buf.then_ H4.out bp.out) (new_block (w := wp) (.cells #[.int .i64 mx, .int .i64 mn] 49))).grown G2 (by have := H4.out.size; have := bp.out.size; simp; omega) (fun b hb => (O3.out.lt b hb).1))
            clear O2 G2 hg2 hl2 O3 hb3 hB3 one bp
            go_roundw
            case rel => exact ⟨kz + 1, N ++ [(mx, mn)], by omega, by go_num, O5, RN, B5⟩
            case measure => simp [intOf]; omega
          · rw [if_neg c1] at RN
            have d1 : decide (mx < mn) = false := decide_eq_false c1
            go_wp2_with fail
            go_roundw
            case rel => exact ⟨kz + 1, N, by omega, by go_num, O4, RN, H4⟩
            case measure => simp [intOf]; omega
        · have RN := RK.out.turn CA.out HP.out (by rw [← hm.out]; omega)
          replace RN := Lib.hid RN
          clear RK
          go_wp2_with fail
          go_roundw
          case rel => exact ⟨kx + 1, N, by omega, by go_num, O, RN, HB⟩
          case measure => simp [intOf]; omega
    · obtain rfl : kx = n := by omega
      have RX := RI.out.stop (by rw [← hn.out]; exact Nat.le_refl _)
      have sh := RI.out.short IA.out
      have NX := Lib.hid (refnormal_canon (its_of_own O.out) RX.canon (by omega))
      go_wp2_with fail
      refine NX.out.mono ?_
      rintro e w4 ⟨⟨r, rfl, O4⟩, B4⟩
      go_wp2_with fail
      go_ret
      exact ⟨⟨_, N, rfl, own_mono O4 (Nat.le_trans B2.out.size HB.out.size), RX, sh⟩, Buf.then_ (Buf.then_ B2.out HB.out) B4⟩
end Spn
end Go.Proofs.Ytfmhfhggogjbkaa
