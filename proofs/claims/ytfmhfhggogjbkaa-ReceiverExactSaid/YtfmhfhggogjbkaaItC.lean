/- The reference's functions at lists at any offset. -/
import Derived.Test.YtfmhfhggogjbkaaItA
import Derived.Test.YtfmhfhggogjbkaaItN
import Derived.Test.YtfmhfhggogjbkaaRfXF
set_option linter.unusedVariables false
set_option linter.unusedSimpArgs false
namespace Go.Proofs.Ytfmhfhggogjbkaa
open Go.RowKit Go.Sort Dice
namespace Spn
open Sp (cells2 cells2_snoc cells2_get Spans own_kept own_below own_mono own_shape)
set_option maxHeartbeats 4000000 in
set_option maxRecDepth 100000 in
theorem refunion_anyw {w : World} {va vb : Value} {A B : LP} (ha : Itw w va A) (hb : Itw w vb B) (h9a : A.length ≤ 100) (h9b : B.length ≤ 100) :
    Calls Try.prog 17 #[va, vb] w fun e w' => (∃ r N, e = .returned r ∧ Spans w' w.heap.size r N ∧ Is N (fun x => hasB A x || hasB B x) ∧ N.length ≤ A.length + B.length) ∧ Below w.heap.size w w' := by
  have HA := Lib.hid ha
  have HB := Lib.hid hb
  have Z := Lib.hid (show Spans w w.heap.size (.slice none 0 0) [] from World.ownsRow_nil _ _ _ _)
  clear ha hb
  go_enter Try.func17, Try.ntmps17
  go_wp2_with (first
    | (at_builtin; refine wpl_spansw (.const (.slice none 0 0)) (.tmp 5) Z.out HA.out (Nat.le_refl _) (by simp; omega) rfl rfl rfl rfl ?_; intro v1 w1 O1 G1; rw [List.nil_append] at O1; have B1 := Lib.hid ((Below.refl w.heap.size w).grown G1 (Nat.le_refl _) (fun k hk => by cases hk)); have P1 := Lib.hid O1; clear O1 G1)
    | (at_builtin; refine wpl_spansw (.tmp 6) (.tmp 7) P1.out (HB.out.keep B1.out) B1.out.size (by omega) rfl rfl rfl rfl ?_; intro v2 w2 O2 G2; have B2 := Lib.hid (B1.out.grown G2 B1.out.size (fun k hk => (P1.out.lt k hk).1)); have NN := Lib.hid (refnormal_any (its_of_own O2) (by rw [List.length_append]; omega)))
    | (go_at_call 23; with_reducible refine NN.out.mono ?_; rintro e w3 ⟨⟨r, N, rfl, O3, I3, l3⟩, hb3⟩))
  go_ret
  exact ⟨⟨_, N, rfl, own_mono O3 B2.out.size, I3.congr fun x => hasB_append _ _ _, by rw [List.length_append] at l3; exact l3⟩, Buf.then_ B2.out hb3⟩
set_option maxHeartbeats 4000000 in
set_option maxRecDepth 100000 in
theorem refminus_genw {w : World} {va vb : Value} {A0 B0 : LP} (ha : Itw w va A0) (hb : Itw w vb B0) (h9a : A0.length ≤ 100) (h9b : B0.length ≤ 100) :
    Calls Try.prog 21 #[va, vb] w fun e w' => (∃ r N, e = .returned r ∧ Spans w' w.heap.size r N ∧ Is N (fun x => hasB A0 x && !hasB B0 x) ∧ N.length ≤ 20000) ∧ Below w.heap.size w w' := by
  obtain ⟨i0, hi, hz0, hz1, hz2⟩ := info_get infoS
  have NA := Lib.hid (refnormal_anyw ha (by omega))
  have NB0 := Lib.hid fun (w' : World) (h' : Below w.heap.size w w') => refnormal_anyw (hb.keep h') (by omega)
  clear ha hb
  go_enter Try.func21, Try.ntmps21
  go_wp2_with fail
  refine NA.out.mono ?_
  rintro e w1 ⟨⟨r, A, rfl, OA, IsA, lA⟩, hb1⟩
  obtain ⟨n, hn⟩ : ∃ n, n = A.length := ⟨_, rfl⟩
  have h9n : n ≤ 100 := by omega
  replace hn := Lib.hid hn
  have CA := Lib.hid IsA.canon
  have HA0 := Lib.hid IsA.has
  clear lA IsA
  obtain ⟨xa, xc, rfl⟩ := own_len OA
  rw [← hn.out] at OA ⊢
  have NB := Lib.hid (NB0.out _ hb1)
  have FA0 := Lib.hid (fun (j : Nat) (p : Int × Int) (hj : A[j]? = some p) => own_get (L := A) (n := n) OA hj)
  have B1 := Lib.hid hb1
  clear OA hb1 NA NB0
  go_wp2_with fail
  refine NB.out.mono ?_
  rintro e w2 ⟨⟨r, B, rfl, OB, IsB, lB⟩, hb2⟩
  obtain ⟨m, hm⟩ : ∃ m, m = B.length := ⟨_, rfl⟩
  have h9m : m ≤ 100 := by omega
  replace hm := Lib.hid hm
  have CB := Lib.hid IsB.canon
  have HB0 := Lib.hid IsB.has
  clear lB IsB
  obtain ⟨ya, yc, rfl⟩ := own_len OB
  rw [← hm.out] at OB ⊢
  have FB := Lib.hid (fun (j : Nat) (p : Int × Int) (hj : B[j]? = some p) => own_get (L := B) (n := m) OB hj)
  have FA := Lib.hid (fun (j : Nat) (p : Int × Int) (hj : A[j]? = some p) => show n ≤ xc ∧ ∃ g, xa = some ⟨g, 0, none⟩ ∧ g < w2.heap.size ∧ w2.cell? ⟨g, j * 2, none⟩ = some (.int .i64 p.1) ∧ w2.cell? ⟨g, j * 2 + 1, none⟩ = some (.int .i64 p.2) from by
    obtain ⟨_, h2, g, e, hg, _, c0, c1, _⟩ := FA0.out j p hj
    exact ⟨h2, g, e, Nat.lt_of_lt_of_le hg hb2.size, (hb2.cell (p := ⟨g, _, none⟩) hg).trans c0, (hb2.cell (p := ⟨g, _, none⟩) hg).trans c1⟩)
  have B2 := Lib.hid (Buf.then_ B1.out hb2)
  have B0 := Lib.hid (Below.refl w2.heap.size w2)
  clear OB hb2 NB FA0 B1
  have Z0 : Hid (Spans w2 w2.heap.size (.slice none 0 0) []) := Lib.hid (World.ownsRow_nil _ _ _ _)
  have R0 := Lib.hid (Ri.start A B)
  go_wp2_with fail
  go_loopw [7, 8] (fun s i wr => ∃ (kx : Nat) (N : LP), kx ≤ n ∧ i = .int .i64 kx ∧ N.length ≤ kx * (m + 1) ∧ Hid (Spans wr w2.heap.size s N) ∧ Hid (Ri A B kx N) ∧ Hid (Below w2.heap.size w2 wr)) (fun _ i _ => n - (intOf i).toNat)
  case atStart => exact ⟨0, [], Nat.zero_le _, rfl, by simp, Z0, R0, B0⟩
  case round =>
    clear B0 Z0 R0
    obtain ⟨kx, N, hk, rfl, hlen, O, RI, HB⟩ := hrel
    have hbig : kx * (m + 1) ≤ 100 * 101 := Nat.mul_le_mul (by omega) (by omega)
    have hsm : (kx + 1) * (m + 1) = kx * (m + 1) + (m + 1) := Nat.succ_mul kx (m + 1)
    have hlen0 := hlen
    obtain ⟨KM, hKM⟩ : ∃ KM, KM = kx * (m + 1) := ⟨_, rfl⟩
    rw [← hKM] at hbig hsm hlen hlen0
    replace hsm := Lib.hid hsm
    replace hKM := Lib.hid hKM
    obtain ⟨sa, sc, rfl⟩ := own_len O.out
    by_cases hlt : kx < n
    · obtain ⟨wo, hwo⟩ : ∃ wo, wo = wr := ⟨_, rfl⟩
      subst hwo
      obtain ⟨⟨lo, t⟩, hp⟩ : ∃ p, A[kx]? = some p := ⟨A[kx]'(by rw [← hn.out]; exact hlt), List.getElem?_eq_getElem _⟩
      obtain ⟨hz2_, g, hxa, hg, q0, q1⟩ := FA.out _ _ hp
      have lt := CA.out.at hp
      dsimp only at lt q0 q1
      have k0 := (HB.out.cell (p := ⟨g, _, none⟩) hg).trans q0
      have k1 := Lib.hid ((HB.out.cell (p := ⟨g, _, none⟩) hg).trans q1)
      subst hxa
      have kn : (kx : Int) < (n : Int) := by omega
      have RK := Lib.hid (Rk.start RI.out hp lt)
      have HP := Lib.hid hp
      clear q0 q1 hp
      go_wp2_with fail
      go_loopw [7, 9, 10] (fun s u v wr => ∃ (kz : Nat) (fx : Int) (N : LP), kz ≤ m ∧ u = .int .i64 fx ∧ v = .int .i64 kz ∧ Hid (Spans wr w2.heap.size s N) ∧ Hid (Rk A B kx kz lo t fx N) ∧ N.length ≤ KM + kz ∧ Hid (Below w2.heap.size w2 wr)) (fun _ _ v _ => m - (intOf v).toNat)
      case atStart => exact ⟨0, lo, N, Nat.zero_le _, rfl, rfl, O, RK, by omega, HB⟩
      case round =>
        have HBo := HB
        clear O RI RK HB k0 k1 hlen
        obtain ⟨kz, fx, N, hkz, rfl, rfl, O, RK, hlen, HB⟩ := hrel
        have hr9 : N.length ≤ 10300 := by omega
        have hlen9 := Lib.hid hlen
        obtain ⟨sa, sc, rfl⟩ := own_len O.out
        obtain ⟨nl, hnl'⟩ : ∃ nl, N.length = nl := ⟨_, rfl⟩
        rw [hnl'] at O hr9
        try rw [hnl']
        have hnl := Lib.hid hnl'
        clear hnl'
        have cA1 := (HB.out.cell (p := ⟨g, _, none⟩) hg).trans (show w2.cell? ⟨g, kx * 2 + 1, none⟩ = some (.int .i64 t) from by
          obtain ⟨_, g', e, _, _, c1⟩ := FA.out _ _ HP.out
          cases e; exact c1)
        by_cases hlz : kz < m
        · obtain ⟨⟨u, v⟩, hq⟩ : ∃ p, B[kz]? = some p := ⟨B[kz]'(by rw [← hm.out]; exact hlz), List.getElem?_eq_getElem _⟩
          obtain ⟨hz1_, hz3_, gb, hya, hgb, _, q0, q1, _⟩ := FB.out _ _ hq
          have uv := CB.out.at hq
          dsimp only at uv
          have j0 := (HB.out.cell (p := ⟨gb, _, none⟩) hgb).trans q0
          have j1 := (HB.out.cell (p := ⟨gb, _, none⟩) hgb).trans q1
          dsimp only at j0 j1
          subst hya
          have km : (kz : Int) < (m : Int) := by omega
          have HQ := Lib.hid hq
          have HQQ := Lib.hid hq
          clear q0 q1 hq hz1_
          by_cases c1 : v ≤ fx
          · have d1 : decide (v ≤ fx) = true := decide_eq_true c1
            have RN := Lib.hid (Rk.skip RK.out HQ.out (.inl c1))
            clear RK HQ
            go_wp2_with fail
            go_quiet (fail)
            go_wp2_with fail
            go_roundw
            case rel => exact ⟨kz + 1, fx, N, by omega, rfl, by go_num, Lib.hid (by repeat (first | exact O.out | refine own_below ?_ (Buf.below_drewN (Below.refl _ _) _))), RN, by have := hlen9.out; omega, Lib.hid (by repeat (first | exact HB.out | refine Buf.below_drewN ?_ _))⟩
            case measure => simp [intOf]; omega
          · have d1 : decide (v ≤ fx) = false := decide_eq_false c1
            by_cases c2 : t ≤ u
            · have d2 : decide (t ≤ u) = true := decide_eq_true c2
              have RN := Lib.hid (Rk.skip RK.out HQ.out (.inr c2))
              clear RK HQ
              go_wp2_with fail
              go_quiet (fail)
              go_wp2_with fail
              go_roundw
              case rel => exact ⟨kz + 1, fx, N, by omega, rfl, by go_num, Lib.hid (by repeat (first | exact O.out | refine own_below ?_ (Buf.below_drewN (Below.refl _ _) _))), RN, by have := hlen9.out; omega, Lib.hid (by repeat (first | exact HB.out | refine Buf.below_drewN ?_ _))⟩
              case measure => simp [intOf]; omega
            · have d2 : decide (t ≤ u) = false := decide_eq_false c2
              have RN := Rk.hit RK.out CB.out HQ.out (by simp only; omega) (by simp only; omega)
              by_cases c3 : fx < u
              · rw [if_pos c3] at RN
                replace RN := Lib.hid RN
                clear RK HQ
                go_wp2_with fail
                go_quiet (fail)
                go_upto_region 12 with fail
                obtain ⟨wp, hwp⟩ : ∃ wp, wp = wr.drewN nq := ⟨_, rfl⟩
                have bp := Lib.hid (show Below wr.heap.size wr wp by rw [hwp]; repeat (first | exact Below.refl _ _ | refine Buf.below_drewN ?_ _))
                have j0' : wp.cell? ⟨gb, kz * 2, none⟩ = some (.int .i64 u) := by rw [hwp]; exact j0
                have j1' : wp.cell? ⟨gb, kz * 2 + 1, none⟩ = some (.int .i64 v) := by rw [hwp]; exact j1
                rw [← hwp]
                clear hwp
                have hb3 := Lib.hid (heap_alloc_new wp (.cells #[.int .i64 fx, .int .i64 u] 49))
                have O3 := Lib.hid (own_below (own_below O.out bp.out) (new_block (w := wp) (.cells #[.int .i64 fx, .int .i64 u] 49)))
                unfold Spans at O3
                rw [hnl.out] at O3
                have one : Hid (∀ uu ∈ [Value.int .i64 fx, .int .i64 u], uu.oneCell' = true) := Lib.hid (by intro uu hu; simp at hu; rcases hu with rfl | rfl <;> rfl)
                have hB3 := Lib.hid (show w2.heap.size ≤ (wp.alloc (.cells #[.int .i64 fx, .int .i64 u] 49)).heap.size by have := HB.out.size; have := bp.out.size; simp; omega)
                go_upto_region 13 with (at_builtin; refine wpList_append_lies _ rfl (.tmp 59) (.tmp 67) 23 rfl w2.heap.size 49 i0 (.agg #[.int .i64 0, .int .i64 0]) 2 16 Try.underlying23 hi hz0 hz1 hz2 rfl (by decide) _ nl (cells2 N) rfl O3.out ⟨wp.heap.size, 0, none⟩ 1 1 [.int .i64 fx, .int .i64 u] rfl rfl (World.news_of_block hb3.out) one.out (by decide) (by unfold maxLen; omega) (by omega) hB3.out _ rfl ?_; intro gq cq w5 O2 G2 hg2 hl2)
                have O5 := Lib.hid (show Spans w5 w2.heap.size (.slice (some ⟨gq, 0, none⟩) (nl + 1) cq) (N ++ [(fx, u)]) by
                  unfold Spans
                  rw [cells2_snoc, List.length_append, hnl.out]
                  exact O2)
                have B5 := Lib.hid (show Below w2.heap.size w2 w5 from (Buf.then_ (Buf.then_ HB.out bp.out) (new_block (w := wp) (.cells #[.int .i64 fx, .int .i64 u] 49))).grown G2 (by have := HB.out.size; have := bp.out.size; simp; omega) (fun b hb => (O3.out.lt b hb).1))
                clear O2 G2 hg2 hl2 O3 hb3 hB3 one bp
                have HBp := Lib.hid (show gb < wp.heap.size from World.block_lt_of_cell? _ _ j1')
                have j5 := Lib.hid (show w5.cell? ⟨gb, kz * 2 + 1, none⟩ = some (.int .i64 v) from by
                  obtain ⟨_, _, gb', e, hgb', _, _, q1, _⟩ := FB.out _ _ HQQ.out
                  cases e
                  exact (B5.out.cell (p := ⟨gb, _, none⟩) hgb').trans q1)
                have j6 := j5.out
                clear j0 j1 j0' j1' cA1
                go_wp2_with fail
                go_roundw
                case rel => exact ⟨kz + 1, max fx v, N ++ [(fx, u)], by omega, rfl, by go_num, O5, RN, by rw [List.length_append]; have := hlen9.out; simp; omega, B5⟩
                case measure => simp [intOf]; omega
              · rw [if_neg c3] at RN
                replace RN := Lib.hid RN
                clear RK HQ
                go_wp2_with fail
                go_quiet (fail)
                go_wp2_with fail
                go_roundw
                case rel => exact ⟨kz + 1, max fx v, N, by omega, rfl, by go_num, Lib.hid (by repeat (first | exact O.out | refine own_below ?_ (Buf.below_drewN (Below.refl _ _) _))), RN, by have := hlen9.out; omega, Lib.hid (by repeat (first | exact HB.out | refine Buf.below_drewN ?_ _))⟩
                case measure => simp [intOf]; omega
        · have RN := Rk.stop RK.out CA.out HP.out (by rw [← hm.out]; omega)
          have nq : Nat := 0
          by_cases c1 : fx < t
          · rw [if_pos c1] at RN
            replace RN := Lib.hid RN
            clear RK
            go_upto_region 15 with fail
            obtain ⟨wp, hwp⟩ : ∃ wp, wp = wr := ⟨_, rfl⟩
            have bp := Lib.hid (show Below wr.heap.size wr wp by rw [hwp]; repeat (first | exact Below.refl _ _ | refine Buf.below_drewN ?_ _))
            have c1' : wp.cell? ⟨g, kx * 2 + 1, none⟩ = some (.int .i64 t) := by rw [hwp]; exact cA1
            rw [← hwp]
            clear hwp
            have hb3 := Lib.hid (heap_alloc_new wp (.cells #[.int .i64 fx, .int .i64 t] 49))
            have O3 := Lib.hid (own_below (own_below O.out bp.out) (new_block (w := wp) (.cells #[.int .i64 fx, .int .i64 t] 49)))
            unfold Spans at O3
            rw [hnl.out] at O3
            have one : Hid (∀ uu ∈ [Value.int .i64 fx, .int .i64 t], uu.oneCell' = true) := Lib.hid (by intro uu hu; simp at hu; rcases hu with rfl | rfl <;> rfl)
            have hB3 := Lib.hid (show w2.heap.size ≤ (wp.alloc (.cells #[.int .i64 fx, .int .i64 t] 49)).heap.size by have := HB.out.size; have := bp.out.size; simp; omega)
            go_wp2_with (at_builtin; refine wpList_append_lies _ rfl (.tmp 83) (.tmp 91) 23 rfl w2.heap.size 49 i0 (.agg #[.int .i64 0, .int .i64 0]) 2 16 Try.underlying23 hi hz0 hz1 hz2 rfl (by decide) _ nl (cells2 N) rfl O3.out ⟨wp.heap.size, 0, none⟩ 1 1 [.int .i64 fx, .int .i64 t] rfl rfl (World.news_of_block hb3.out) one.out (by decide) (by unfold maxLen; omega) (by omega) hB3.out _ rfl ?_; intro gq cq w5 O2 G2 hg2 hl2)
            have O5 := Lib.hid (show Spans w5 w2.heap.size (.slice (some ⟨gq, 0, none⟩) (nl + 1) cq) (N ++ [(fx, t)]) by
              unfold Spans
              rw [cells2_snoc, List.length_append, hnl.out]
              exact O2)
            have B5 := Lib.hid (show Below w2.heap.size w2 w5 from (Buf.then_ (Buf.then_ HB.out bp.out) (new_block (w := wp) (.cells #[.int .i64 fx, .int .i64 t] 49))).grown G2 (by have := HB.out.size; have := bp.out.size; simp; omega) (fun b hb => (O3.out.lt b hb).1))
            clear O2 G2 hg2 hl2 O3 hb3 hB3 one bp
            go_roundw
            case rel => exact ⟨kx + 1, N ++ [(fx, t)], by omega, by go_num, by rw [List.length_append, hsm.out]; have := hlen9.out; simp; omega, O5, RN, B5⟩
            case measure => simp [intOf]; omega
          · rw [if_neg c1] at RN
            replace RN := Lib.hid RN
            clear RK
            go_wp2_with fail
            go_roundw
            case rel => exact ⟨kx + 1, N, by omega, by go_num, by rw [hsm.out]; have := hlen9.out; omega, O, RN, HB⟩
            case measure => simp [intOf]; omega
    · obtain rfl : kx = n := by omega
      have RX := RI.out.is
      rw [take_all A kx (by rw [← hn.out]; exact Nat.le_refl _)] at RX
      have sh : N.length ≤ 20000 := by omega
      go_wp2_with fail
      go_ret
      exact ⟨⟨_, N, rfl, own_mono O.out B2.out.size, RX.congr (fun x => by rw [HA0.out, HB0.out]), sh⟩, Buf.then_ B2.out HB.out⟩
set_option maxHeartbeats 4000000 in
set_option maxRecDepth 100000 in
theorem refmeet_genw {w : World} {va vb : Value} {A0 B0 : LP} (ha : Itw w va A0) (hb : Itw w vb B0) (h9a : A0.length ≤ 100) (h9b : B0.length ≤ 100) :
    Calls Try.prog 19 #[va, vb] w fun e w' => (∃ r N, e = .returned r ∧ Spans w' w.heap.size r N ∧ Is N (fun x => hasB A0 x && hasB B0 x) ∧ N.length ≤ 20000) ∧ Below w.heap.size w w' := by
  obtain ⟨i0, hi, hz0, hz1, hz2⟩ := info_get infoS
  have NA := Lib.hid (refnormal_anyw ha (by omega))
  have NB0 := Lib.hid fun (w' : World) (h' : Below w.heap.size w w') => refnormal_anyw (hb.keep h') (by omega)
  clear ha hb
  go_enter Try.func19, Try.ntmps19
  go_wp2_with fail
  refine NA.out.mono ?_
  rintro e w1 ⟨⟨r, A, rfl, OA, IsA, lA⟩, hb1⟩
  obtain ⟨n, hn⟩ : ∃ n, n = A.length := ⟨_, rfl⟩
  have h9n : n ≤ 100 := by omega
  replace hn := Lib.hid hn
  have CA := Lib.hid IsA.canon
  have HA0 := Lib.hid IsA.has
  clear lA IsA
  obtain ⟨xa, xc, rfl⟩ := own_len OA
  rw [← hn.out] at OA ⊢
  have NB := Lib.hid (NB0.out _ hb1)
  have FA0 := Lib.hid (fun (j : Nat) (p : Int × Int) (hj : A[j]? = some p) => own_get (L := A) (n := n) OA hj)
  have B1 := Lib.hid hb1
  clear OA hb1 NA NB0
  go_wp2_with fail
  refine NB.out.mono ?_
  rintro e w2 ⟨⟨r, B, rfl, OB, IsB, lB⟩, hb2⟩
  obtain ⟨m, hm⟩ : ∃ m, m = B.length := ⟨_, rfl⟩
  have h9m : m ≤ 100 := by omega
  replace hm := Lib.hid hm
  have CB := Lib.hid IsB.canon
  have HB0 := Lib.hid IsB.has
  clear lB IsB
  obtain ⟨ya, yc, rfl⟩ := own_len OB
  rw [← hm.out] at OB ⊢
  have FB := Lib.hid (fun (j : Nat) (p : Int × Int) (hj : B[j]? = some p) => own_get (L := B) (n := m) OB hj)
  have FA := Lib.hid (fun (j : Nat) (p : Int × Int) (hj : A[j]? = some p) => show n ≤ xc ∧ ∃ g, xa = some ⟨g, 0, none⟩ ∧ g < w2.heap.size ∧ w2.cell? ⟨g, j * 2, none⟩ = some (.int .i64 p.1) ∧ w2.cell? ⟨g, j * 2 + 1, none⟩ = some (.int .i64 p.2) from by
    obtain ⟨_, h2, g, e, hg, _, c0, c1, _⟩ := FA0.out j p hj
    exact ⟨h2, g, e, Nat.lt_of_lt_of_le hg hb2.size, (hb2.cell (p := ⟨g, _, none⟩) hg).trans c0, (hb2.cell (p := ⟨g, _, none⟩) hg).trans c1⟩)
  have B2 := Lib.hid (Buf.then_ B1.out hb2)
  have B0 := Lib.hid (Below.refl w2.heap.size w2)
  clear OB hb2 NB FA0 B1
  have Z0 : Hid (Spans w2 w2.heap.size (.slice none 0 0) []) := Lib.hid (World.ownsRow_nil _ _ _ _)
  have R0 := Lib.hid (Re.start A B)
  go_wp2_with fail
  go_loopw [7, 8] (fun s i wr => ∃ (kx : Nat) (N : LP), kx ≤ n ∧ i = .int .i64 kx ∧ N.length ≤ kx * m ∧ Hid (Spans wr w2.heap.size s N) ∧ Hid (Re A B kx 0 N) ∧ Hid (Below w2.heap.size w2 wr)) (fun _ i _ => n - (intOf i).toNat)
  case atStart => exact ⟨0, [], Nat.zero_le _, rfl, by simp, Z0, R0, B0⟩
  case round =>
    clear B0 Z0 R0
    obtain ⟨kx, N, hk, rfl, hlen, O, RI, HB⟩ := hrel
    have hbig : kx * m ≤ 100 * 100 := Nat.mul_le_mul (by omega) (by omega)
    have hsm : (kx + 1) * m = kx * m + m := Nat.succ_mul kx m
    obtain ⟨KM, hKM⟩ : ∃ KM, KM = kx * m := ⟨_, rfl⟩
    rw [← hKM] at hbig hsm hlen
    replace hsm := Lib.hid hsm
    replace hKM := Lib.hid hKM
    obtain ⟨sa, sc, rfl⟩ := own_len O.out
    by_cases hlt : kx < n
    · obtain ⟨wo, hwo⟩ : ∃ wo, wo = wr := ⟨_, rfl⟩
      subst hwo
      obtain ⟨⟨lo, t⟩, hp⟩ : ∃ p, A[kx]? = some p := ⟨A[kx]'(by rw [← hn.out]; exact hlt), List.getElem?_eq_getElem _⟩
      obtain ⟨hz2_, g, hxa, hg, q0, q1⟩ := FA.out _ _ hp
      have lt := CA.out.at hp
      dsimp only at lt q0 q1
      subst hxa
      have kn : (kx : Int) < (n : Int) := by omega
      have RK := RI
      have HP := Lib.hid hp
      clear q0 q1 hp
      go_wp2_with fail
      go_loopw [7, 9] (fun s v wr => ∃ (kz : Nat) (N : LP), kz ≤ m ∧ v = .int .i64 kz ∧ Hid (Spans wr w2.heap.size s N) ∧ Hid (Re A B kx kz N) ∧ N.length ≤ KM + kz ∧ Hid (Below w2.heap.size w2 wr)) (fun _ v _ => m - (intOf v).toNat)
      case atStart => exact ⟨0, N, Nat.zero_le _, rfl, O, RK, by omega, HB⟩
      case round =>
        have HBo := HB
        clear O RI RK HB hlen
        obtain ⟨kz, N, hkz, rfl, O, RK, hlen, HB⟩ := hrel
        have hr9 : N.length ≤ 10300 := by omega
        have hlen9 := Lib.hid hlen
        obtain ⟨sa, sc, rfl⟩ := own_len O.out
        obtain ⟨nl, hnl'⟩ : ∃ nl, N.length = nl := ⟨_, rfl⟩
        rw [hnl'] at O hr9
        try rw [hnl']
        have hnl := Lib.hid hnl'
        clear hnl'
        by_cases hlz : kz < m
        · obtain ⟨⟨u, v⟩, hq⟩ : ∃ p, B[kz]? = some p := ⟨B[kz]'(by rw [← hm.out]; exact hlz), List.getElem?_eq_getElem _⟩
          obtain ⟨hz1_, hz3_, gb, hya, hgb, _, q0, q1, _⟩ := FB.out _ _ hq
          obtain ⟨_, g', e, _, c0, c1⟩ := FA.out _ _ HP.out
          cases e
          have uv := CB.out.at hq
          dsimp only at uv
          have V : Hid (∀ w', Below w2.heap.size w2 w' → w'.cell? ⟨g, kx * 2, none⟩ = some (.int .i64 lo) ∧ w'.cell? ⟨g, kx * 2 + 1, none⟩ = some (.int .i64 t) ∧ w'.cell? ⟨gb, kz * 2, none⟩ = some (.int .i64 u) ∧ w'.cell? ⟨gb, kz * 2 + 1, none⟩ = some (.int .i64 v)) := Lib.hid fun w' h => ⟨(h.cell (p := ⟨g, _, none⟩) hg).trans c0, (h.cell (p := ⟨g, _, none⟩) hg).trans c1, (h.cell (p := ⟨gb, _, none⟩) hgb).trans q0, (h.cell (p := ⟨gb, _, none⟩) hgb).trans q1⟩
          subst hya
          have km : (kz : Int) < (m : Int) := by omega
          have HQ := Lib.hid hq
          obtain ⟨mx, hmx⟩ : ∃ mx, mx = max lo u := ⟨_, rfl⟩
          obtain ⟨mn, hmn⟩ : ∃ mn, mn = min t v := ⟨_, rfl⟩
          have RN := Re.next RK.out CA.out CB.out HP.out HQ.out
          simp only [← hmx, ← hmn] at RN
          replace hmx := Lib.hid hmx
          replace hmn := Lib.hid hmn
          replace RN := Lib.hid RN
          clear c0 c1 q0 q1 hq hz1_ RK HQ
          go_upto_region 9 with fail
          obtain ⟨wq, hwq⟩ : ∃ wq, wq = wr := ⟨_, rfl⟩
          have bq := Lib.hid (show Below wr.heap.size wr wq by rw [hwq]; exact Below.refl _ _)
          have HBq := Lib.hid (Buf.then_ HB.out bq.out)
          have Oq := Lib.hid (own_below O.out bq.out)
          rw [← hwq]
          clear hwq
          go_cut [10] (fun v10 wz => ∃ (w4 : World) (b : Nat), w4 = wz ∧ wq.heap.size ≤ b ∧ v10 = .pointer (some ⟨b, 0, none⟩) ∧ w4.cell? ⟨b, 0, none⟩ = some (.int .i64 mx) ∧ w4.cell? ⟨b, 1, none⟩ = some (.int .i64 mn) ∧ Hid (Below wq.heap.size wq w4))
          case first =>
            obtain ⟨z0, z1, z2, z3⟩ := V.out _ HBq.out
            have ne1 := World.new_ne wq _ z0
            have ne2 := World.new_ne wq _ z2
            go_region_held3 (fun w' => w'.cell? ⟨g, kx * 2, none⟩ = some (.int .i64 lo) ∧ w'.cell? ⟨g, kx * 2 + 1, none⟩ = some (.int .i64 t) ∧ w'.cell? ⟨gb, kz * 2, none⟩ = some (.int .i64 u) ∧ w'.cell? ⟨gb, kz * 2 + 1, none⟩ = some (.int .i64 v)) (go_keep) (fail)
            all_goals go_wp2_with fail
            all_goals go_meet
            all_goals exact ⟨_, _, rfl, Nat.le_refl _, rfl, by rw [hmx.out]; exact (c2 (heap_alloc_new wq _)).1, by rw [hmn.out]; exact (c2 (heap_alloc_new wq _)).2, Lib.hid (Below.drew (new_block _))⟩
          case rest =>
          obtain ⟨w4, b, hw4, hbb, rfl, x0, x1, B4⟩ := hcut
          subst hw4
          have O4 := Lib.hid (own_below Oq.out B4.out)
          have H4 := Lib.hid (Buf.then_ HBq.out B4.out)
          clear O Oq HB HBq bq V hmx hmn B4
          by_cases c1 : mx < mn
          · rw [if_pos c1] at RN
            have d1 : decide (mx < mn) = true := decide_eq_true c1
            go_upto_region 11 with fail
            obtain ⟨wp, hwp⟩ : ∃ wp, wp = w4 := ⟨_, rfl⟩
            have bp := Lib.hid (show Below w4.heap.size w4 wp by rw [hwp]; repeat (first | exact Below.refl _ _ | refine Buf.below_drewN ?_ _))
            have k1' : wp.cell? ⟨b, 0, none⟩ = some (.int .i64 mx) := by rw [hwp]; exact x0
            have k2' : wp.cell? ⟨b, 1, none⟩ = some (.int .i64 mn) := by rw [hwp]; exact x1
            rw [← hwp]
            clear hwp
            have hb3 := Lib.hid (heap_alloc_new wp (.cells #[.int .i64 mx, .int .i64 mn] 49))
            have O3 := Lib.hid (own_below (own_below O4.out bp.out) (new_block (w := wp) (.cells #[.int .i64 mx, .int .i64 mn] 49)))
            unfold Spans at O3
            rw [hnl.out] at O3
            have one : Hid (∀ uu ∈ [Value.int .i64 mx, .int .i64 mn], uu.oneCell' = true) := Lib.hid (by intro uu hu; simp at hu; rcases hu with rfl | rfl <;> rfl)
            have hB3 := Lib.hid (show w2.heap.size ≤ (wp.alloc (.cells #[.int .i64 mx, .int .i64 mn] 49)).heap.size by have := H4.out.size; have := bp.out.size; simp; omega)
            go_wp2_with (at_builtin; refine wpList_append_lies _ rfl (.tmp 55) (.tmp 57) 23 rfl w2.heap.size 49 i0 (.agg #[.int .i64 0, .int .i64 0]) 2 16 Try.underlying23 hi hz0 hz1 hz2 rfl (by decide) _ nl (cells2 N) rfl O3.out ⟨wp.heap.size, 0, none⟩ 1 1 [.int .i64 mx, .int .i64 mn] rfl rfl (World.news_of_block hb3.out) one.out (by decide) (by unfold maxLen; omega) (by omega) hB3.out _ rfl ?_; intro gq cq w5 O2 G2 hg2 hl2)
            have O5 := Lib.hid (show Spans w5 w2.heap.size (.slice (some ⟨gq, 0, none⟩) (nl + 1) cq) (N ++ [(mx, mn)]) by
              unfold Spans
              rw [cells2_snoc, List.length_append, hnl.out]
              exact O2)
            have B5 := Lib.hid (show Below w2.heap.size w2 w5 from (Buf.then_ (Buf.then_ H4.out bp.out) (new_block (w := wp) (.cells #[.int .i64 mx, .int .i64 mn] 49))).grown G2 (by have := H4.out.size; have := bp.out.size; simp; omega) (fun b hb => (O3.out.lt b hb).1))
            clear O2 G2 hg2 hl2 O3 hb3 hB3 one bp
            go_roundw
            case rel => exact ⟨kz + 1, N ++ [(mx, mn)], by omega, by go_num, O5, RN, by rw [List.length_append]; have := hlen9.out; simp; omega, B5⟩
            case measure => simp [intOf]; omega
          · rw [if_neg c1] at RN
            have d1 : decide (mx < mn) = false := decide_eq_false c1
            go_wp2_with fail
            go_roundw
            case rel => exact ⟨kz + 1, N, by omega, by go_num, O4, RN, by have := hlen9.out; omega, H4⟩
            case measure => simp [intOf]; omega
        · have RN := RK.out.turn CA.out HP.out (by rw [← hm.out]; omega)
          replace RN := Lib.hid RN
          clear RK
          go_wp2_with fail
          go_roundw
          case rel => exact ⟨kx + 1, N, by omega, by go_num, by rw [hsm.out]; have := hlen9.out; omega, O, RN, HB⟩
          case measure => simp [intOf]; omega
    · obtain rfl : kx = n := by omega
      have RX := RI.out.stop (by rw [← hn.out]; exact Nat.le_refl _)
      have sh : N.length ≤ 20000 := by omega
      have NX := Lib.hid (refnormal_long (its_of_own O.out) RX.canon (by omega))
      go_wp2_with fail
      refine NX.out.mono ?_
      rintro e w4 ⟨⟨r, rfl, O4⟩, B4⟩
      go_wp2_with fail
      go_ret
      exact ⟨⟨_, N, rfl, own_mono O4 (Nat.le_trans B2.out.size HB.out.size), RX.congr (fun x => by rw [HA0.out, HB0.out]), sh⟩, Buf.then_ (Buf.then_ B2.out HB.out) B4⟩
set_option maxHeartbeats 4000000 in
set_option maxRecDepth 100000 in
theorem reflength_genw {w : World} {v : Value} {L0 L : LP} (h : Itw w v L0) (hN : Is L (hasB L0)) (hI : Near L) (h9 : L0.length ≤ 200) :
    Calls Try.prog 36 #[v] w fun e w' => e = .returned (.tuple #[.int .i64 (lenL L), .bool true]) ∧ Below w.heap.size w w' := by
  have NC := Lib.hid (refnormal_anyw h h9)
  have L0_ : lenL (L.take 0) = 0 := rfl
  have CC := Lib.hid hN.canon
  have II := Lib.hid hI
  obtain ⟨tl, htl⟩ : ∃ tl, tl = lenL L := ⟨_, rfl⟩
  rw [← htl]
  replace htl := Lib.hid htl
  replace hN := Lib.hid hN
  clear h hI
  go_enter Try.func36, Try.ntmps36
  go_wp2_with fail
  refine NC.out.mono ?_
  rintro e w1 ⟨⟨r, N', rfl, O, I', l'⟩, hb1⟩
  obtain rfl := Is.unique hN.out I'
  obtain ⟨n, hn⟩ : ∃ n, n = L.length := ⟨_, rfl⟩
  have h9 : n ≤ 200 := by omega
  replace hn := Lib.hid hn
  clear I' l'
  have NE := Lib.hid (near_gen O II.out CC.out (by rw [← hn.out]; exact h9))
  obtain ⟨sa, sc, rfl⟩ := own_len O
  rw [← hn.out] at O NE ⊢
  have FS := Lib.hid (fun (j : Nat) (p : Int × Int) (hj : L[j]? = some p) => own_get (L := L) (n := n) O hj)
  have B1 := Lib.hid hb1
  clear O hb1 NC
  go_wp2_with fail
  refine NE.out.mono ?_
  rintro e w2 ⟨rfl, hb2⟩
  have B2 := Lib.hid hb2
  clear hb2 NE
  have B0 := Lib.hid (Below.refl w2.heap.size w2)
  have T0 : Hid ((0 : Int) = lenL (L.take 0)) := Lib.hid rfl
  go_wp2_with fail
  go_loopw [5, 6] (fun s i wr => ∃ (k : Nat) (x : Int), k ≤ n ∧ s = .int .i64 x ∧ i = .int .i64 k ∧ Hid (x = lenL (L.take k)) ∧ 0 ≤ x ∧ x ≤ 2305843009213693952 ∧ Hid (Below w2.heap.size w2 wr)) (fun _ i _ => n - (intOf i).toNat)
  case atStart => exact ⟨0, 0, Nat.zero_le _, rfl, rfl, T0, by omega, by omega, B0⟩
  case round =>
    clear B0 T0
    obtain ⟨k, x, hk, rfl, rfl, hx, x0, x9, HB⟩ := hrel
    by_cases hlt : k < n
    · obtain ⟨⟨f, t⟩, hp⟩ : ∃ p, L[k]? = some p := ⟨L[k]'(by rw [← hn.out]; exact hlt), List.getElem?_eq_getElem _⟩
      obtain ⟨hz1_, hz2_, g, rfl, hg, hgB, q0, q1, _⟩ := FS.out _ _ hp
      have hin := II.out _ (List.mem_of_getElem? hp)
      have hg2 : g < w2.heap.size := Nat.lt_of_lt_of_le hg B2.out.size
      have k0 := (HB.out.cell (p := ⟨g, _, none⟩) hg2).trans ((B2.out.cell (p := ⟨g, _, none⟩) hg).trans q0)
      have k1 := (HB.out.cell (p := ⟨g, _, none⟩) hg2).trans ((B2.out.cell (p := ⟨g, _, none⟩) hg).trans q1)
      have ft := CC.out.at hp
      dsimp only at k0 k1 hin ft
      have b1 : (k : Int) < n := by omega
      have hs := lenL_succ L k _ hp
      rw [← hx.out] at hs
      have hbd := lenL_bounds CC.out (show (-1152921504606846976 : Int) ≤ 1152921504606846976 by decide) II.out (k + 1)
      rw [hs] at hbd
      simp only at hs hbd
      obtain ⟨y, hy⟩ : ∃ y, x + (t - f) = y := ⟨_, rfl⟩
      rw [hy] at hs hbd
      obtain ⟨i1, i2⟩ := hin
      obtain ⟨y0, y9⟩ := hbd
      have HS := Lib.hid hs.symm
      have w1_ : IntKind.i64.wrap (t - f) = t - f := IntWalk.i64_in _ (by omega)
      clear q0 q1 hp hz1_ hs hx
      go_wp2_with fail
      go_quiet (fail)
      go_wp2_with fail
      go_roundw
      case rel => exact ⟨k + 1, y, by omega, by first | rfl | exact congrArg _ hy, by go_num, HS, by omega, by omega, Lib.hid (by repeat (first | exact HB.out | refine Buf.below_drewN ?_ _))⟩
      case measure => simp [intOf]; omega
    · obtain rfl : k = n := by omega
      have hL : L.take k = L := List.take_of_length_le (by rw [← hn.out]; exact Nat.le_refl _)
      rw [hL, ← htl.out] at hx
      obtain rfl : x = tl := hx.out
      go_wp2_with fail
      go_ret2
      exact ⟨rfl, Buf.then_ (Buf.then_ B1.out B2.out) HB.out⟩
set_option maxHeartbeats 4000000 in
theorem reflength_now {w : World} {v : Value} {L0 L : LP} (h : Itw w v L0) (hN : Is L (hasB L0)) (hI : ¬ Near L) (h9 : L0.length ≤ 200) :
    Calls Try.prog 36 #[v] w fun e w' => e = .returned (.tuple #[.int .i64 0, .bool false]) ∧ Below w.heap.size w w' := by
  have NC := Lib.hid (refnormal_anyw h h9)
  replace hN := Lib.hid hN
  replace hI := Lib.hid hI
  clear h
  go_enter Try.func36, Try.ntmps36
  go_wp2_with fail
  refine NC.out.mono ?_
  rintro e w1 ⟨⟨r, N', rfl, O, I', l'⟩, hb1⟩
  obtain rfl := Is.unique hN.out I'
  have NE := Lib.hid (near_no O hI.out I'.canon (by omega))
  have B1 := Lib.hid hb1
  obtain ⟨sa, sc, rfl⟩ := own_len O
  clear O I' l' hb1 NC
  go_wp2_with fail
  refine NE.out.mono ?_
  rintro e w2 ⟨rfl, hb2⟩
  go_wp2_with fail
  go_ret2
  exact ⟨rfl, Buf.then_ B1.out hb2⟩
set_option maxHeartbeats 2000000 in
theorem refcut_genw {w : World} {v : Value} {A : LP} (x y : Int) (h : Itw w v A) (h9 : A.length ≤ 100) :
    Calls Try.prog 30 #[v, .int .i64 x, .int .i64 y] w fun e w' => (∃ r N, e = .returned r ∧ Spans w' w.heap.size r N ∧ Is N (fun z => hasB A z && decide (x ≤ z ∧ z < y)) ∧ N.length ≤ 20000) ∧ Below w.heap.size w w' := by
  have H := Lib.hid h
  clear h
  have W1 := Lib.hid (new_block (w := w) (.cells #[.int .i64 x, .int .i64 y] 49))
  have K := c2 (heap_alloc_new w (.cells #[.int .i64 x, .int .i64 y] 49))
  have I2 : Hid (Its (w.alloc (.cells #[.int .i64 x, .int .i64 y] 49)) (.slice (some ⟨w.heap.size, 0, none⟩) 1 1) [(x, y)]) := Lib.hid (.inr ⟨_, 1, rfl, Nat.le_refl _, by simp, fun k p hp => by
    have hk : k = 0 := by have := (List.getElem?_eq_some_iff.1 hp).1; simp at this; omega
    subst hk
    simp at hp
    subst hp
    exact K⟩)
  have C := Lib.hid (refmeet_genw (H.out.keep W1.out) I2.out.wide (by omega) (by simp))
  clear K
  go_enter Try.func30, Try.ntmps30
  go_wp2_with (go_at_call 19; with_reducible refine C.out.mono ?_; rintro e w2 ⟨⟨r, N, rfl, O, I, hl⟩, b⟩)
  go_ret
  exact ⟨⟨_, N, rfl, own_mono O W1.out.size, I.congr fun z => by simp [hasB_cons, hasB_nil], hl⟩, Buf.then_ W1.out b⟩
set_option maxHeartbeats 4000000 in
theorem refshift_now {w : World} {v : Value} {L N0 : LP} (d : Int) (h : Itw w v L) (hN : Is N0 (hasB L)) (hI : ¬ Near N0 ∨ ¬ (-1152921504606846976 ≤ d ∧ d ≤ 1152921504606846976)) (h9 : L.length ≤ 200) :
    Calls Try.prog 34 #[v, .int .i64 d] w fun e w' => e = .returned (.tuple #[.slice none 0 0, .int .i64 2]) ∧ Below w.heap.size w w' := by
  have C1 := Lib.hid (refnormal_anyw h h9)
  replace hN := Lib.hid hN
  clear h
  by_cases c1 : -1152921504606846976 ≤ d ∧ d ≤ 1152921504606846976
  · have F1 := Lib.hid fun w' => refin_b d (-1152921504606846976) 1152921504606846976 w' c1.1 c1.2
    replace hI : ¬ Near N0 := hI.resolve_right (fun h => h c1)
    replace hI := Lib.hid hI
    clear c1
    go_enter Try.func34, Try.ntmps34
    go_wp2_with fail
    refine C1.out.mono ?_
    rintro e w1 ⟨⟨r, N, rfl, O, I, hl⟩, b1⟩
    obtain rfl := Is.unique hN.out I
    have NE := Lib.hid (near_no O hI.out I.canon (by omega))
    have B1 := Lib.hid b1
    obtain ⟨sa, sc, rfl⟩ := own_len O
    clear O I b1 C1 hl
    go_wp2_with (go_at_call 62; (with_reducible refine (F1.out _).mono ?_); rintro e w2 ⟨rfl, rfl⟩)
    refine NE.out.mono ?_
    rintro e w2 ⟨rfl, b2⟩
    go_wp2_with fail
    go_ret2
    exact ⟨rfl, Buf.then_ B1.out b2⟩
  · have F1 := Lib.hid fun w' => refin_no d (-1152921504606846976) 1152921504606846976 w' c1
    clear c1 hI
    go_enter Try.func34, Try.ntmps34
    go_wp2_with fail
    refine C1.out.mono ?_
    rintro e w1 ⟨⟨r, N, rfl, O, I, hl⟩, b1⟩
    have B1 := Lib.hid b1
    obtain ⟨sa, sc, rfl⟩ := own_len O
    clear O I b1 C1 hl
    go_wp2_with (go_at_call 62; (with_reducible refine (F1.out _).mono ?_); rintro e w2 ⟨rfl, rfl⟩)
    go_ret2
    exact ⟨rfl, B1.out⟩
set_option maxHeartbeats 4000000 in
set_option maxRecDepth 100000 in
theorem refshift_genw {w : World} {v : Value} {L N : LP} (d : Int) (h : Itw w v L) (hN : Is N (hasB L)) (hI : Near N) (hd1 : -1152921504606846976 ≤ d) (hd2 : d ≤ 1152921504606846976) (h9 : L.length ≤ 200) :
    Calls Try.prog 34 #[v, .int .i64 d] w fun e w' => (∃ r, e = .returned (.tuple #[r, .int .i64 0]) ∧ Spans w' w.heap.size r (moveL N d)) ∧ Below w.heap.size w w' := by
  have C1 := Lib.hid (refnormal_anyw h h9)
  have F1 := Lib.hid fun w' => refin_b d (-1152921504606846976) 1152921504606846976 w' hd1 hd2
  replace hN := Lib.hid hN
  have HI := Lib.hid hI
  clear h hI
  go_enter Try.func34, Try.ntmps34
  go_wp2_with fail
  refine C1.out.mono ?_
  rintro e w1 ⟨⟨r, N', rfl, O, I, hl⟩, b1⟩
  obtain rfl := Is.unique hN.out I
  have NE := Lib.hid (near_gen O HI.out I.canon (by omega))
  have HC := Lib.hid I.canon
  have B1 := Lib.hid b1
  have hsh := own_shape O
  have HO := Lib.hid O
  have hn9 : N.length ≤ 200 := by omega
  clear O I b1 C1 hl
  rcases hsh with ⟨rfl, hn⟩ | ⟨g, c, rfl, hc, hg⟩
  · obtain rfl : N = [] := List.length_eq_zero_iff.1 hn
    go_wp2_with (go_at_call 62; (with_reducible refine (F1.out _).mono ?_); rintro e w2 ⟨rfl, rfl⟩)
    refine NE.out.mono ?_
    rintro e w2 ⟨rfl, b2⟩
    have B2 := Lib.hid (Buf.then_ B1.out b2)
    have O2 : Hid (Spans w2 w.heap.size (.slice none 0 0) (moveL [] d)) := Lib.hid (World.ownsRow_nil _ _ _ _)
    go_wp2_with fail
    go_loop [7] (fun i => i = .int .i64 0) (fun _ => 0)
    case atStart => rfl
    case round =>
      subst hrel
      go_wp2_with fail
      go_ret2
      exact ⟨⟨_, rfl, O2.out⟩, B2.out⟩
  · obtain ⟨n, hn⟩ : ∃ n, n = N.length := ⟨_, rfl⟩
    have hgB := (HO.out.lt g rfl).1
    rw [← hn] at hc hn9 NE ⊢
    have HO' := Lib.hid (show w1.ownsRow w.heap.size 49 2 (.slice (some ⟨g, 0, none⟩) n c) n (cells2 N) from by have := HO.out; unfold Spans at this; rw [← hn] at this; exact this)
    replace hn := Lib.hid hn
    go_wp2_with (go_at_call 62; (with_reducible refine (F1.out _).mono ?_); rintro e w2 ⟨rfl, rfl⟩)
    refine NE.out.mono ?_
    rintro e w2 ⟨rfl, b2⟩
    have B2 := Lib.hid (Buf.then_ B1.out b2)
    have O2 : Hid (w2.ownsRow w.heap.size 49 2 (.slice (some ⟨g, 0, none⟩) n c) n (cells2 (partL N d 0))) := Lib.hid (own_below (by simpa [partL, moveL] using HO'.out) b2)
    clear HO HO' b2 B1 NE
    go_wp2_with fail
    go_loopw [7] (fun i wr => ∃ kx : Nat, kx ≤ n ∧ i = .int .i64 kx ∧ Hid (wr.ownsRow w.heap.size 49 2 (.slice (some ⟨g, 0, none⟩) n c) n (cells2 (partL N d kx))) ∧ Hid (Below w.heap.size w wr)) (fun i _ => n - (intOf i).toNat)
    case atStart => exact ⟨0, Nat.zero_le _, rfl, O2, B2⟩
    case round =>
      clear O2 B2
      obtain ⟨kx, hk, rfl, HO, HB⟩ := hrel
      by_cases hlt : kx < n
      · obtain ⟨⟨f, t⟩, hp⟩ : ∃ p, N[kx]? = some p := ⟨N[kx]'(by rw [← hn.out]; exact hlt), List.getElem?_eq_getElem _⟩
        obtain ⟨p1, p2, p3⟩ := partL_at (d := d) hp
        have i1 := HI.out _ (List.mem_of_getElem? hp)
        have i2 := HC.out.at hp
        dsimp only at i1 i2
        have o1 := HO.out
        rw [p1] at o1
        obtain ⟨k0, k1⟩ := cells_at o1 kx p3 hlt
        have o2 := store_from (f + d) o1 kx p3
        have o3 := store_to (t + d) o2 kx p3
        rw [← p2] at o3
        obtain ⟨j0, j1⟩ := cells_at o2 kx p3 hlt
        have z1 := World.ownsRow.frozenAt o1 (kx * 2)
        have z0 := World.ownsRow.frozenAt o1 (kx * 2 + 1)
        have z2 := World.ownsRow.frozenAt o2 (kx * 2 + 1)
        have w1_ : IntKind.i64.wrap (f + d) = f + d := IntWalk.i64_in _ (by omega)
        have w2_ : IntKind.i64.wrap (t + d) = t + d := IntWalk.i64_in _ (by omega)
        have O3 := Lib.hid o3
        have B3 := Lib.hid ((HB.out.setCell (p := ⟨g, kx * 2, none⟩) hgB (.int .i64 (f + d))).setCell (p := ⟨g, kx * 2 + 1, none⟩) hgB (.int .i64 (t + d)))
        have b1 : (kx : Int) < n := by omega
        replace hp := Lib.hid hp
        clear o1 o2 o3 p1 p2 p3 HO HB i1 i2
        go_upto_region 7 with fail
        go_region
        all_goals go_wp2_with fail
        all_goals go_roundw
        all_goals first
          | (case rel => exact ⟨kx + 1, by omega, by go_num, Lib.hid (by repeat (first | exact O3.out | refine own_below ?_ (Below.refl _ _).drew)), Lib.hid (by repeat (first | exact B3.out | refine Below.drew ?_))⟩)
          | (case measure => simp [intOf]; omega)
      · obtain rfl : kx = n := by omega
        have e : Hid (partL N d kx = moveL N d) := Lib.hid (by unfold partL; rw [take_all N kx (by rw [hn.out]; exact Nat.le_refl _), List.drop_of_length_le (by rw [hn.out]; exact Nat.le_refl _)]; simp)
        have O4 : Hid (Spans wr w.heap.size (.slice (some ⟨g, 0, none⟩) kx c) (moveL N d)) := Lib.hid (by have := HO.out; rw [e.out] at this; unfold Spans; rw [moveL_length, ← hn.out]; exact this)
        go_wp2_with fail
        go_ret2
        exact ⟨⟨_, rfl, O4.out⟩, HB.out⟩
set_option tactic.hygienic false in
set_option maxHeartbeats 8000000 in
set_option maxRecDepth 100000 in
theorem reffirst_genw {w : World} {v : Value} {L : LP} (n0 : Int) (h : Itw w v L) (hI : Inside L (-9223372036854775808) 9223372036854775807) (h9 : L.length ≤ 200) (n00 : -9223372036854775808 ≤ n0) (n09 : n0 ≤ 9223372036854775807) :
    Calls Try.prog 32 #[v, .int .i64 n0] w fun e w' => (∃ r N, Is N (hasB L) ∧ N.length ≤ L.length ∧ e = .returned r ∧ Spans w' w.heap.size r (firstL N n0)) ∧ Below w.heap.size w w' := by
  obtain ⟨i0, hi, hz0, hz1, hz2⟩ := info_get infoS
  have C1 := Lib.hid (refnormal_anyw h h9)
  replace hI := Lib.hid hI
  clear h
  go_enter Try.func32, Try.ntmps32
  go_wp2_with fail
  refine C1.out.mono ?_
  rintro e w1 ⟨⟨r, N, rfl, O, I, hl⟩, b1⟩
  have HI := Lib.hid (I.inside hI.out)
  have HC := Lib.hid I.canon
  have HL := Lib.hid hl
  obtain ⟨xa, xc, rfl⟩ := own_len O
  obtain ⟨m, hn⟩ : ∃ m, m = N.length := ⟨_, rfl⟩
  rw [← hn] at hl O ⊢
  replace hn := Lib.hid hn
  have hn9 : m ≤ 200 := by omega
  have F := Lib.hid (fun (j : Nat) (p : Int × Int) (hj : N[j]? = some p) => own_get (L := N) (n := m) O hj)
  have B1 := Lib.hid b1
  have A0 := Lib.hid (Below.refl w1.heap.size w1)
  have Z0 : Hid (Spans w1 w1.heap.size (.slice none 0 0) []) := Lib.hid (World.ownsRow_nil _ _ _ _)
  replace I := Lib.hid I
  clear O b1 C1 hl h9
  go_wp2_with fail
  go_loopw [6, 7, 1] (fun s i x wr => ∃ (kx : Nat) (u : Int) (S : LP), kx ≤ m ∧ i = .int .i64 kx ∧ x = .int .i64 u ∧ -9223372036854775808 ≤ u ∧ u ≤ 9223372036854775807 ∧ S.length ≤ kx ∧ Hid (S ++ firstL (N.drop kx) u = firstL N n0) ∧ Hid (Spans wr w1.heap.size s S) ∧ Hid (Below w1.heap.size w1 wr)) (fun _ i _ _ => m - (intOf i).toNat)
  case atStart => exact ⟨0, n0, [], Nat.zero_le _, rfl, rfl, n00, n09, by simp, Lib.hid rfl, Z0, A0⟩
  case round =>
    clear A0 Z0
    obtain ⟨kx, u, S, hk, rfl, rfl, u0, u9, hSl, HF, OO, HB⟩ := hrel
    obtain ⟨sa, sc, rfl⟩ := own_len OO.out
    obtain ⟨nl, hnl'⟩ : ∃ nl, S.length = nl := ⟨_, rfl⟩
    have O4 := Lib.hid OO.out
    unfold Spans at O4
    rw [hnl'] at O4 OO hSl ⊢
    have hnl := Lib.hid hnl'
    clear hnl'
    by_cases hlt : kx < m
    · obtain ⟨⟨f, t⟩, hp⟩ : ∃ p, N[kx]? = some p := ⟨N[kx]'(by rw [← hn.out]; exact hlt), List.getElem?_eq_getElem _⟩
      have hstep := firstL_step hp u
      obtain ⟨hz1_, hz2_, g, hxa, hg, _, q0, q1, _⟩ := F.out _ _ hp
      have i1 := HI.out _ (List.mem_of_getElem? hp)
      have i2 := HC.out.at hp
      have KF := Lib.hid fun wx (hb : Below wr.heap.size wr wx) => ((Buf.then_ HB.out hb).cell (p := ⟨g, kx * 2, none⟩) hg).trans q0
      have k0 := (HB.out.cell (p := ⟨g, _, none⟩) hg).trans q0
      have k1 := (HB.out.cell (p := ⟨g, _, none⟩) hg).trans q1
      dsimp only at k0 k1 i1 i2 KF
      subst hxa
      have b1 : (kx : Int) < (m : Int) := by omega
      replace hp := Lib.hid hp
      clear q0 q1 hz1_
      by_cases hu : 0 < u
      · have d1 : decide (0 < u) = true := decide_eq_true hu
        have hu' : ¬ u < 1 := by omega
        obtain ⟨T, hT⟩ : ∃ T, T = t % 18446744073709551616 := ⟨_, rfl⟩
        obtain ⟨Fw, hFw⟩ : ∃ Fw, Fw = f % 18446744073709551616 := ⟨_, rfl⟩
        have v1 : IntKind.u64.wrap t = T := by rw [hT]; simp [IntKind.wrap, IntKind.bits, IntKind.signed]
        have v2 : IntKind.u64.wrap f = Fw := by rw [hFw]; simp [IntKind.wrap, IntKind.bits, IntKind.signed]
        have v3 : IntKind.u64.wrap (T - Fw) = t - f := by simp [IntKind.wrap, IntKind.bits, IntKind.signed]; omega
        have v4 : IntKind.u64.wrap u = u := by simp [IntKind.wrap, IntKind.bits, IntKind.signed]; omega
        clear hT hFw
        by_cases hd : u < t - f
        · have E1 : Hid ((S ++ [(f, f + u)]) ++ firstL (N.drop (kx + 1)) 0 = firstL N n0) := Lib.hid (by rw [← HF.out, hstep, if_neg hu', if_pos hd, firstL_none _ 0 (by omega)]; simp)
          clear HF hstep
          have d2 : decide (u < t - f) = true := decide_eq_true hd
          go_wp2_with fail
          go_quiet (fail)
          go_upto_region 8 with fail
          have hw0 : Below wr.heap.size wr (wr.drewN nq).drew := (Buf.below_drewN (Below.refl _ _) _).drew
          refine wp_region_noPanic ?_
          refine wp_region_any (by kernel_rfl) ?_
          refine Inv.wpAny_inv (fun k => k == 15 || k == 16) [38, 39, 40, 41, 42, 43, 44, 45, 46, 47, 48, 49, 50, 51, 52] (fun w' => Below wr.heap.size wr w') (fun _ w1 w2 => Below w1.heap.size w1 w2) (fun k => ([fun v_ w_ => v_ = .slice sa nl sc, fun v_ w_ => v_ = .slice (some ⟨g, 0, none⟩) m xc, fun v_ w_ => v_ = .int .i64 (kx : Int), fun v_ w_ => v_ = .pointer (some ⟨g, kx * 2, none⟩), fun v_ w_ => v_ = .pointer (some ⟨g, kx * 2, none⟩), fun v_ w_ => v_ = .int .i64 f, fun v_ w_ => v_ = .slice (some ⟨g, 0, none⟩) m xc, fun v_ w_ => v_ = .int .i64 (kx : Int), fun v_ w_ => v_ = .pointer (some ⟨g, kx * 2, none⟩), fun v_ w_ => v_ = .pointer (some ⟨g, kx * 2, none⟩), fun v_ w_ => v_ = .int .i64 f, fun v_ w_ => v_ = .int .i64 u, fun v_ w_ => v_ = .int .i64 (f + u), fun v_ w_ => v_ = .agg #[.int .i64 f, .int .i64 (f + u)], fun v_ w_ => ∃ b, v_ = .slice (some ⟨b, 0, none⟩) 1 1 ∧ w_.heap[b]? = some (.cells #[.int .i64 f, .int .i64 (f + u)] 49 (0, 0)), fun v_ w_ => True, fun v_ w_ => True] : List (Value → World → Prop)).getD k (fun _ _ => True)) _ (fun σ => by simp only [Inv.putAll, List.foldl_cons, List.foldl_nil, Act.put, List.setIfInBounds_toArray, List.set_cons_zero, List.set_cons_succ]; rfl) (by kernel_rfl) (by kernel_rfl) ?_ hw0 ?_ ?_ 2 #[true, true, true, true, true, true, true, true, true, true, true, true, true, true, true, false, false] (by kernel_rfl) (by kernel_rfl) ?_
          · intro j k v w1 w2 hjk hv hr
            rcases k with _ | k
            · exact hv
            rcases k with _ | k
            · exact hv
            rcases k with _ | k
            · exact hv
            rcases k with _ | k
            · exact hv
            rcases k with _ | k
            · exact hv
            rcases k with _ | k
            · exact hv
            rcases k with _ | k
            · exact hv
            rcases k with _ | k
            · exact hv
            rcases k with _ | k
            · exact hv
            rcases k with _ | k
            · exact hv
            rcases k with _ | k
            · exact hv
            rcases k with _ | k
            · exact hv
            rcases k with _ | k
            · exact hv
            rcases k with _ | k
            · exact hv
            rcases k with _ | k
            · exact by obtain ⟨b, e, h⟩ := hv; exact ⟨b, e, (hr.block b (Array.getElem?_eq_some_iff.1 h).1).trans h⟩
            rcases k with _ | k
            · exact hv
            rcases k with _ | k
            · exact hv
            · exact hv
          · intro k t hl hd
            rcases k with _ | k
            · exact absurd hl (by decide +kernel)
            rcases k with _ | k
            · exact absurd hl (by decide +kernel)
            rcases k with _ | k
            · exact absurd hl (by decide +kernel)
            rcases k with _ | k
            · exact absurd hl (by decide +kernel)
            rcases k with _ | k
            · exact absurd hl (by decide +kernel)
            rcases k with _ | k
            · exact absurd hl (by decide +kernel)
            rcases k with _ | k
            · exact absurd hl (by decide +kernel)
            rcases k with _ | k
            · exact absurd hl (by decide +kernel)
            rcases k with _ | k
            · exact absurd hl (by decide +kernel)
            rcases k with _ | k
            · exact absurd hl (by decide +kernel)
            rcases k with _ | k
            · exact absurd hl (by decide +kernel)
            rcases k with _ | k
            · exact absurd hl (by decide +kernel)
            rcases k with _ | k
            · exact absurd hl (by decide +kernel)
            rcases k with _ | k
            · exact absurd hl (by decide +kernel)
            rcases k with _ | k
            · exact absurd hl (by decide +kernel)
            rcases k with _ | k
            · exact absurd hl (by decide +kernel)
            rcases k with _ | k
            · exact absurd hl (by decide +kernel)
            · simp at hd
          · show Inv.Steps _ _ _ _ _ _ _ _ [0, 1, 2, 3, 4, 5, 6, 7, 8, 9, 10, 11, 12, 13, 14]
            refine Inv.Steps.go (by decide) (by rfl) (fun σ wx hw hd K hK => ?_) ?_
            · simp only [List.getElem_toArray, List.getElem_cons_zero, List.getElem_cons_succ, Act.put, List.setIfInBounds_toArray, List.set_cons_zero, List.set_cons_succ] at hK ⊢
              go_simp
              exact hK.out _ _ hw (Below.refl _ _) (rfl)
            refine Inv.Steps.go (by decide) (by rfl) (fun σ wx hw hd K hK => ?_) ?_
            · simp only [List.getElem_toArray, List.getElem_cons_zero, List.getElem_cons_succ, Act.put, List.setIfInBounds_toArray, List.set_cons_zero, List.set_cons_succ] at hK ⊢
              go_simp
              exact hK.out _ _ hw (Below.refl _ _) (rfl)
            refine Inv.Steps.go (by decide) (by rfl) (fun σ wx hw hd K hK => ?_) ?_
            · simp only [List.getElem_toArray, List.getElem_cons_zero, List.getElem_cons_succ, Act.put, List.setIfInBounds_toArray, List.set_cons_zero, List.set_cons_succ] at hK ⊢
              go_simp
              exact hK.out _ _ hw (Below.refl _ _) (rfl)
            refine Inv.Steps.go (by decide) (by rfl) (fun σ wx hw hd K hK => ?_) ?_
            · obtain e39 : (σ 39) = .slice (some ⟨g, 0, none⟩) m xc := hd 1 (some 39) (by kernel_rfl) (by rfl)
              obtain e40 : (σ 40) = .int .i64 (kx : Int) := hd 2 (some 40) (by kernel_rfl) (by rfl)
              simp only [List.getElem_toArray, List.getElem_cons_zero, List.getElem_cons_succ, Act.put, List.setIfInBounds_toArray, List.set_cons_zero, List.set_cons_succ, e39, e40] at hK ⊢
              go_simp
              exact hK.out _ _ hw (Below.refl _ _) (rfl)
            refine Inv.Steps.go (by decide) (by rfl) (fun σ wx hw hd K hK => ?_) ?_
            · obtain e41 : (σ 41) = .pointer (some ⟨g, kx * 2, none⟩) := hd 3 (some 41) (by kernel_rfl) (by rfl)
              simp only [List.getElem_toArray, List.getElem_cons_zero, List.getElem_cons_succ, Act.put, List.setIfInBounds_toArray, List.set_cons_zero, List.set_cons_succ, e41] at hK ⊢
              go_simp
              exact hK.out _ _ hw (Below.refl _ _) (rfl)
            refine Inv.Steps.go (by decide) (by rfl) (fun σ wx hw hd K hK => ?_) ?_
            · obtain e42 : (σ 42) = .pointer (some ⟨g, kx * 2, none⟩) := hd 4 (some 42) (by kernel_rfl) (by rfl)
              simp only [List.getElem_toArray, List.getElem_cons_zero, List.getElem_cons_succ, Act.put, List.setIfInBounds_toArray, List.set_cons_zero, List.set_cons_succ, e42] at hK ⊢
              have zc := KF.out _ hw
              go_simp
              exact hK.out _ _ hw (Below.refl _ _) (rfl)
            refine Inv.Steps.go (by decide) (by rfl) (fun σ wx hw hd K hK => ?_) ?_
            · simp only [List.getElem_toArray, List.getElem_cons_zero, List.getElem_cons_succ, Act.put, List.setIfInBounds_toArray, List.set_cons_zero, List.set_cons_succ] at hK ⊢
              go_simp
              exact hK.out _ _ hw (Below.refl _ _) (rfl)
            refine Inv.Steps.go (by decide) (by rfl) (fun σ wx hw hd K hK => ?_) ?_
            · simp only [List.getElem_toArray, List.getElem_cons_zero, List.getElem_cons_succ, Act.put, List.setIfInBounds_toArray, List.set_cons_zero, List.set_cons_succ] at hK ⊢
              go_simp
              exact hK.out _ _ hw (Below.refl _ _) (rfl)
            refine Inv.Steps.go (by decide) (by rfl) (fun σ wx hw hd K hK => ?_) ?_
            · obtain e44 : (σ 44) = .slice (some ⟨g, 0, none⟩) m xc := hd 6 (some 44) (by kernel_rfl) (by rfl)
              obtain e45 : (σ 45) = .int .i64 (kx : Int) := hd 7 (some 45) (by kernel_rfl) (by rfl)
              simp only [List.getElem_toArray, List.getElem_cons_zero, List.getElem_cons_succ, Act.put, List.setIfInBounds_toArray, List.set_cons_zero, List.set_cons_succ, e44, e45] at hK ⊢
              go_simp
              exact hK.out _ _ hw (Below.refl _ _) (rfl)
            refine Inv.Steps.go (by decide) (by rfl) (fun σ wx hw hd K hK => ?_) ?_
            · obtain e46 : (σ 46) = .pointer (some ⟨g, kx * 2, none⟩) := hd 8 (some 46) (by kernel_rfl) (by rfl)
              simp only [List.getElem_toArray, List.getElem_cons_zero, List.getElem_cons_succ, Act.put, List.setIfInBounds_toArray, List.set_cons_zero, List.set_cons_succ, e46] at hK ⊢
              go_simp
              exact hK.out _ _ hw (Below.refl _ _) (rfl)
            refine Inv.Steps.go (by decide) (by rfl) (fun σ wx hw hd K hK => ?_) ?_
            · obtain e47 : (σ 47) = .pointer (some ⟨g, kx * 2, none⟩) := hd 9 (some 47) (by kernel_rfl) (by rfl)
              simp only [List.getElem_toArray, List.getElem_cons_zero, List.getElem_cons_succ, Act.put, List.setIfInBounds_toArray, List.set_cons_zero, List.set_cons_succ, e47] at hK ⊢
              have zc := KF.out _ hw
              go_simp
              exact hK.out _ _ hw (Below.refl _ _) (rfl)
            refine Inv.Steps.go (by decide) (by rfl) (fun σ wx hw hd K hK => ?_) ?_
            · simp only [List.getElem_toArray, List.getElem_cons_zero, List.getElem_cons_succ, Act.put, List.setIfInBounds_toArray, List.set_cons_zero, List.set_cons_succ] at hK ⊢
              go_simp
              exact hK.out _ _ hw (Below.refl _ _) (rfl)
            refine Inv.Steps.go (by decide) (by rfl) (fun σ wx hw hd K hK => ?_) ?_
            · obtain e48 : (σ 48) = .int .i64 f := hd 10 (some 48) (by kernel_rfl) (by rfl)
              obtain e49 : (σ 49) = .int .i64 u := hd 11 (some 49) (by kernel_rfl) (by rfl)
              simp only [List.getElem_toArray, List.getElem_cons_zero, List.getElem_cons_succ, Act.put, List.setIfInBounds_toArray, List.set_cons_zero, List.set_cons_succ, e48, e49] at hK ⊢
              go_simp
              exact hK.out _ _ hw (Below.refl _ _) (congrArg (Value.int .i64) (IntWalk.i64_in _ (by omega)))
            refine Inv.Steps.go (by decide) (by rfl) (fun σ wx hw hd K hK => ?_) ?_
            · obtain e43 : (σ 43) = .int .i64 f := hd 5 (some 43) (by kernel_rfl) (by rfl)
              obtain e50 : (σ 50) = .int .i64 (f + u) := hd 12 (some 50) (by kernel_rfl) (by rfl)
              simp only [List.getElem_toArray, List.getElem_cons_zero, List.getElem_cons_succ, Act.put, List.setIfInBounds_toArray, List.set_cons_zero, List.set_cons_succ, e43, e50] at hK ⊢
              go_simp
              exact hK.out _ _ hw (Below.refl _ _) (rfl)
            refine Inv.Steps.go (by decide) (by rfl) (fun σ wx hw hd K hK => ?_) ?_
            · obtain e51 : (σ 51) = .agg #[.int .i64 f, .int .i64 (f + u)] := hd 13 (some 51) (by kernel_rfl) (by rfl)
              simp only [List.getElem_toArray, List.getElem_cons_zero, List.getElem_cons_succ, Act.put, List.setIfInBounds_toArray, List.set_cons_zero, List.set_cons_succ, e51] at hK ⊢
              go_simp
              exact hK.out _ _ (Buf.then_ hw (new_block _)) (new_block _) (⟨_, rfl, heap_alloc_new _ _⟩)
            exact Inv.Steps.nil
          · intro σ wx hw hd
            obtain e38 : (σ 38) = .slice sa nl sc := hd 0 (some 38) (by rfl) (by rfl)
            obtain ⟨bS, e52, PS⟩ : ∃ b, (σ 52) = .slice (some ⟨b, 0, none⟩) 1 1 ∧ wx.heap[b]? = some (.cells #[.int .i64 f, .int .i64 (f + u)] 49 (0, 0)) := hd 14 (some 52) (by rfl) (by rfl)
            simp only [e38, e52]
            refine Inv.one (i := 15) (by decide) (by kernel_rfl) (by rfl) (fun K hK => ?_)
            simp only [List.getElem_toArray, List.getElem_cons_zero, List.getElem_cons_succ, Act.put, List.setIfInBounds_toArray, List.set_cons_zero, List.set_cons_succ] at hK ⊢
            have IK : Its wx (.slice (some ⟨bS, 0, none⟩) 1 1) [(f, f + u)] := .inr ⟨bS, 1, rfl, by simp, (Array.getElem?_eq_some_iff.1 PS).1, fun k p hp => by cases k with | zero => (simp at hp; subst hp; exact c2 PS) | succ k => simp at hp⟩
            refine wp_spans (.tmp 38) (.tmp 52) rfl (by simp [Act.eval]) (by simp [Act.eval]) (own_below OO.out hw) IK (Nat.le_trans HB.out.size hw.size) (by have := hnl.out; simp; omega) ?_
            intro v' w' O2 G2
            refine hK.out _ _ ?_
            clear hK K hd IK PS
            have B5 := Lib.hid ((Buf.then_ HB.out hw).grown G2 (Nat.le_trans HB.out.size hw.size) (fun b hb => ((own_below OO.out hw).lt b hb).1))
            have O5 := Lib.hid O2
            clear O2 G2 hw
            refine Inv.take (i := 16) (v := v') (by decide) rfl (by kernel_rfl) (by kernel_rfl) (by kernel_rfl) (fun _ _ _ h => h) (by rfl) (fun w' => ?_) ?_
            · simp only [List.getElem_toArray, List.getElem_cons_zero, List.getElem_cons_succ]
              go_simp
            try simp only [Act.put, List.setIfInBounds_toArray, List.set_cons_zero, List.set_cons_succ]
            refine Inv.done (by kernel_rfl) (NoPanic.normal ?_)
            go_wp2_with fail
            go_roundw
            case rel => exact ⟨kx + 1, 0, S ++ [(f, f + u)], by omega, by go_num, rfl, by omega, by omega, by rw [List.length_append]; have := hnl.out; simp; omega, E1, O5, B5⟩
            case measure => simp [intOf]; omega
        · have E1 : Hid ((S ++ [(f, t)]) ++ firstL (N.drop (kx + 1)) (u - (t - f)) = firstL N n0) := Lib.hid (by rw [← HF.out, hstep, if_neg hu', if_neg hd]; simp)
          clear HF hstep
          have d2 : decide (u < t - f) = false := decide_eq_false hd
          have v6 : IntKind.i64.wrap (t - f) = t - f := IntWalk.i64_in _ (by omega)
          have v7 : IntKind.i64.wrap (u - (t - f)) = u - (t - f) := IntWalk.i64_in _ (by omega)
          go_wp2_with fail
          go_quiet (fail)
          go_upto_region 10 with fail
          obtain ⟨wp, hwp⟩ : ∃ wp, wp = wr.drewN nq := ⟨_, rfl⟩
          have bp := Lib.hid (show Below wr.heap.size wr wp by rw [hwp]; exact Buf.below_drewN (Below.refl _ _) _)
          have j0 : wp.cell? ⟨g, kx * 2, none⟩ = some (.int .i64 f) := by rw [hwp]; exact k0
          have j1 : wp.cell? ⟨g, kx * 2 + 1, none⟩ = some (.int .i64 t) := by rw [hwp]; exact k1
          rw [← hwp]
          clear hwp k0 k1
          have hb3 := Lib.hid (heap_alloc_new wp (.cells #[.int .i64 f, .int .i64 t] 49))
          have O3 := Lib.hid (own_below (own_below O4.out bp.out) (new_block (w := wp) (.cells #[.int .i64 f, .int .i64 t] 49)))
          have one : Hid (∀ u ∈ [Value.int .i64 f, .int .i64 t], u.oneCell' = true) := Lib.hid (by intro u hu; simp at hu; rcases hu with rfl | rfl <;> rfl)
          have hB3 := Lib.hid (show w1.heap.size ≤ (wp.alloc (.cells #[.int .i64 f, .int .i64 t] 49)).heap.size by have := HB.out.size; have := bp.out.size; simp; omega)
          go_wp2_with (at_builtin; refine wpList_append_lies _ rfl (.tmp 54) (.tmp 59) 23 rfl w1.heap.size 49 i0 (.agg #[.int .i64 0, .int .i64 0]) 2 16 Try.underlying23 hi hz0 hz1 hz2 rfl (by decide) _ nl (cells2 S) rfl O3.out ⟨wp.heap.size, 0, none⟩ 1 1 [.int .i64 f, .int .i64 t] rfl rfl (World.news_of_block hb3.out) one.out (by decide) (by unfold maxLen; omega) (by omega) hB3.out _ rfl ?_; intro gq cq w5 O2 G2 hg2 hl2)
          have O5 := Lib.hid (show Spans w5 w1.heap.size (.slice (some ⟨gq, 0, none⟩) (nl + 1) cq) (S ++ [(f, t)]) by
            unfold Spans
            rw [cells2_snoc, List.length_append, hnl.out]
            exact O2)
          have B5 := Lib.hid (show Below w1.heap.size w1 w5 from (Buf.then_ (Buf.then_ HB.out bp.out) (new_block (w := wp) (.cells #[.int .i64 f, .int .i64 t] 49))).grown G2 (by have := HB.out.size; have := bp.out.size; simp; omega) (fun b hb => (O3.out.lt b hb).1))
          clear O2 G2 hg2 hl2 O3 hb3 hB3 one j0 j1 bp O4 OO HB
          go_roundw
          case rel => exact ⟨kx + 1, u - (t - f), S ++ [(f, t)], by omega, by go_num, rfl, by omega, by omega, by rw [List.length_append, hnl.out]; simp; omega, E1, O5, B5⟩
          case measure => simp [intOf]; omega
      · have d1 : decide (0 < u) = false := decide_eq_false hu
        have e : Hid (firstL N n0 = S) := Lib.hid (by rw [← HF.out, firstL_none _ u (by omega), List.append_nil])
        go_wp2_with fail
        go_ret
        exact ⟨⟨_, N, I.out, HL.out, rfl, by rw [e.out]; unfold Spans; rw [hnl.out]; exact own_mono O4.out B1.out.size⟩, Buf.then_ B1.out HB.out⟩
    · obtain rfl : kx = m := by omega
      have e : Hid (firstL N n0 = S) := Lib.hid (by rw [← HF.out, List.drop_of_length_le (by rw [hn.out]; exact Nat.le_refl _)]; simp [firstL])
      go_wp2_with fail
      go_ret
      exact ⟨⟨_, N, I.out, HL.out, rfl, by rw [e.out]; unfold Spans; rw [hnl.out]; exact own_mono O4.out B1.out.size⟩, Buf.then_ B1.out HB.out⟩
end Spn
end Go.Proofs.Ytfmhfhggogjbkaa
