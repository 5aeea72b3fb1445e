/- RfEMG: texts joined. -/
import Derived.Test.YtfmhfhggogjbkaaRfNP
import Derived.Test.YtfmhfhggogjbkaaRfM
import Derived.Test.YtfmhfhggogjbkaaRcvAE
import Derived.Lib.MinMax
import Derived.Deep.RegionHeld3
/- The reference's Minus, Meet and Cut at canonical sets. -/
set_option linter.unusedVariables false
set_option linter.unusedSimpArgs false
namespace Go.Proofs.Ytfmhfhggogjbkaa
open Go.RowKit Dice
namespace Spn
open Sp (cells2 cells2_snoc cells2_get Spans own_kept own_below own_mono own_shape)
theorem Ri.short {A B N : LP} {i : Nat} (h : Ri A B i N) (hA : Inside A 0 64) : N.length ≤ 32 :=
  Rcv.canon_short h.is.canon (inside_of_has h.is.canon hA fun x hx => by
    rw [h.is.has] at hx
    simp only [Bool.and_eq_true] at hx
    exact has_take_imp hx.1)
theorem Rk.short {A B N : LP} {i k : Nat} {lo t f : Int} (h : Rk A B i k lo t f N) (hA : Canon A) (hI : Inside A 0 64) (hp : A[i]? = some (lo, t)) : N.length ≤ 32 :=
  Rcv.canon_short h.is.canon (inside_of_has h.is.canon hI fun x hx => by
    rw [h.is.has] at hx
    simp only [Bool.and_eq_true, Bool.or_eq_true, decide_eq_true_eq, Bool.not_eq_true'] at hx
    rcases hx with ⟨hx | ⟨h1, h2⟩, hb⟩
    · exact has_take_imp hx
    · by_cases c : x < t
      · exact yes_of hp h1 c
      · rw [h.over x (by omega) h2] at hb; cases hb)
theorem Re.short {A B N : LP} {i k : Nat} (h : Re A B i k N) (hI : Inside A 0 64) : N.length ≤ 32 :=
  Rcv.canon_short h.is.canon (inside_of_has h.is.canon hI fun x hx => by
    rw [h.is.has] at hx
    simp only [Bool.and_eq_true, Bool.or_eq_true] at hx
    rcases hx with ⟨hx, _⟩ | ⟨hx, _⟩
    · exact has_take_imp hx
    · cases hp : A[i]? with
      | none => rw [hp] at hx; cases hx
      | some p =>
        rw [hp] at hx
        simp only [Option.any_some, decide_eq_true_eq] at hx
        exact yes_of hp hx.1 hx.2)
set_option maxHeartbeats 4000000 in
set_option maxRecDepth 100000 in
theorem refminus_canon {w : World} {va vb : Value} {A B : LP} (ha : Its w va A) (hb : Its w vb B) (cA : Canon A) (cB : Canon B) (iA : Inside A 0 64) (iB : Inside B 0 64) (h9a : A.length ≤ 100) (h9b : B.length ≤ 100) :
    Calls Try.prog 21 #[va, vb] w fun e w' => (∃ r N, e = .returned r ∧ Spans w' w.heap.size r N ∧ Is N (fun x => hasB A x && !hasB B x) ∧ N.length ≤ 32) ∧ Below w.heap.size w w' := by
  obtain ⟨i0, hi, hz0, hz1, hz2⟩ := info_get infoS
  have NA := Lib.hid (refnormal_canon ha cA (by omega))
  have NB0 := Lib.hid fun (w' : World) (h' : Below w.heap.size w w') => refnormal_canon (hb.keep h') cB (by omega)
  obtain ⟨n, hn⟩ : ∃ n, n = A.length := ⟨_, rfl⟩
  obtain ⟨m, hm⟩ : ∃ m, m = B.length := ⟨_, rfl⟩
  rw [← hn] at h9a
  rw [← hm] at h9b
  replace hn := Lib.hid hn
  replace hm := Lib.hid hm
  have CA := Lib.hid cA
  have CB := Lib.hid cB
  have IA := Lib.hid iA
  have IB := Lib.hid iB
  clear ha hb cA cB iA iB
  go_enter Try.func21, Try.ntmps21
  go_wp2_with fail
  refine NA.out.mono ?_
  rintro e w1 ⟨⟨r, rfl, OA⟩, hb1⟩
  obtain ⟨xa, xc, rfl⟩ := own_len OA
  rw [← hn.out] at OA ⊢
  have NB := Lib.hid (NB0.out _ hb1)
  have FA0 := Lib.hid (fun (j : Nat) (p : Int × Int) (hj : A[j]? = some p) => own_get (L := A) (n := n) OA hj)
  have B1 := Lib.hid hb1
  clear OA hb1 NA NB0
  go_wp2_with fail
  refine NB.out.mono ?_
  rintro e w2 ⟨⟨r, rfl, OB⟩, hb2⟩
  obtain ⟨ya, yc, rfl⟩ := own_len OB
  rw [← hm.out] at OB ⊢
  have FB := Lib.hid (fun (j : Nat) (p : Int × Int) (hj : B[j]? = some p) => own_get (L := B) (n := m) OB hj)
  have FA := Lib.hid (fun (j : Nat) (p : Int × Int) (hj : A[j]? = some p) => show n ≤ xc ∧ ∃ g, xa = some ⟨g, 0, none⟩ ∧ g < w2.heap.size ∧ w2.cell? ⟨g, j * 2, none⟩ = some (.int .i64 p.1) ∧ w2.cell? ⟨g, j * 2 + 1, none⟩ = some (.int .i64 p.2) from by
    obtain ⟨_, h2, g, e, hg, _, c0, c1, _⟩ := FA0.out j p hj
    exact ⟨h2, g, e, Nat.lt_of_lt_of_le hg hb2.size, (hb2.cell (p := ⟨g, _, none⟩) hg).trans c0, (hb2.cell (p := ⟨g, _, none⟩) hg).trans c1⟩)
  have B2 := Lib.hid (Buf.then_ B1.out hb2)
  have B0 := Lib.hid (Below.refl w2.heap.size w2)
  clear OB hb2 NB FA0 B1
  have Z0 : Hid (Spans w2 w2.heap.size (.slice none 0 0) []) := Lib.hid (World.ownsRow_nil _ _ _ _)
  have R0 := Lib.hid (Ri.start A B)
  go_wp2_with fail
  go_loopw [7, 8] (fun s i wr => ∃ (kx : Nat) (N : LP), kx ≤ n ∧ i = .int .i64 kx ∧ Hid (Spans wr w2.heap.size s N) ∧ Hid (Ri A B kx N) ∧ Hid (Below w2.heap.size w2 wr)) (fun _ i _ => n - (intOf i).toNat)
  case atStart => exact ⟨0, [], Nat.zero_le _, rfl, Z0, R0, B0⟩
  case round =>
    clear B0 Z0 R0
    obtain ⟨kx, N, hk, rfl, O, RI, HB⟩ := hrel
    obtain ⟨sa, sc, rfl⟩ := own_len O.out
    by_cases hlt : kx < n
    · obtain ⟨wo, hwo⟩ : ∃ wo, wo = wr := ⟨_, rfl⟩
      subst hwo
      obtain ⟨⟨lo, t⟩, hp⟩ : ∃ p, A[kx]? = some p := ⟨A[kx]'(by rw [← hn.out]; exact hlt), List.getElem?_eq_getElem _⟩
      obtain ⟨hz2_, g, hxa, hg, q0, q1⟩ := FA.out _ _ hp
      have hin := IA.out _ (List.mem_of_getElem? hp)
      have lt := CA.out.at hp
      dsimp only at hin lt q0 q1
      have k0 := (HB.out.cell (p := ⟨g, _, none⟩) hg).trans q0
      have k1 := Lib.hid ((HB.out.cell (p := ⟨g, _, none⟩) hg).trans q1)
      subst hxa
      have kn : (kx : Int) < (n : Int) := by omega
      have RK := Lib.hid (Rk.start RI.out hp lt)
      have HP := Lib.hid hp
      obtain ⟨i1, i2⟩ := hin
      have hr9 := Rk.short RK.out CA.out IA.out hp
      clear q0 q1 hp
      go_wp2_with fail
      go_loopw [7, 9, 10] (fun s u v wr => ∃ (kz : Nat) (fx : Int) (N : LP), kz ≤ m ∧ u = .int .i64 fx ∧ v = .int .i64 kz ∧ Hid (Spans wr w2.heap.size s N) ∧ Hid (Rk A B kx kz lo t fx N) ∧ 0 ≤ fx ∧ fx ≤ 64 ∧ Hid (Below w2.heap.size w2 wr)) (fun _ _ v _ => m - (intOf v).toNat)
      case atStart => exact ⟨0, lo, N, Nat.zero_le _, rfl, rfl, O, RK, by omega, by omega, HB⟩
      case round =>
        have HBo := HB
        clear O RI RK hr9 HB k0 k1
        obtain ⟨kz, fx, N, hkz, rfl, rfl, O, RK, f0, f9, HB⟩ := hrel
        have hr9 := Rk.short RK.out CA.out IA.out HP.out
        obtain ⟨sa, sc, rfl⟩ := own_len O.out
        obtain ⟨nl, hnl'⟩ : ∃ nl, N.length = nl := ⟨_, rfl⟩
        rw [hnl'] at O hr9
        try rw [hnl']
        have hnl := Lib.hid hnl'
        clear hnl'
        have cA1 := (HB.out.cell (p := ⟨g, _, none⟩) hg).trans (show w2.cell? ⟨g, kx * 2 + 1, none⟩ = some (.int .i64 t) from by
          obtain ⟨_, g', e, _, _, c1⟩ := FA.out _ _ HP.out
          cases e; exact c1)
        by_cases hlz : kz < m
        · obtain ⟨⟨u, v⟩, hq⟩ : ∃ p, B[kz]? = some p := ⟨B[kz]'(by rw [← hm.out]; exact hlz), List.getElem?_eq_getElem _⟩
          obtain ⟨hz1_, hz3_, gb, hya, hgb, _, q0, q1, _⟩ := FB.out _ _ hq
          have hinb := IB.out _ (List.mem_of_getElem? hq)
          have uv := CB.out.at hq
          dsimp only at hinb uv
          have j0 := (HB.out.cell (p := ⟨gb, _, none⟩) hgb).trans q0
          have j1 := (HB.out.cell (p := ⟨gb, _, none⟩) hgb).trans q1
          dsimp only at j0 j1
          subst hya
          have km : (kz : Int) < (m : Int) := by omega
          obtain ⟨u1, u2⟩ := hinb
          have HQ := Lib.hid hq
          have HQQ := Lib.hid hq
          clear q0 q1 hq hz1_
          by_cases c1 : v ≤ fx
          · have d1 : decide (v ≤ fx) = true := decide_eq_true c1
            have RN := Lib.hid (Rk.skip RK.out HQ.out (.inl c1))
            clear RK HQ
            go_wp2_with fail
            go_quiet (fail)
            go_wp2_with fail
            go_roundw
            case rel => exact ⟨kz + 1, fx, N, by omega, rfl, by go_num, Lib.hid (by repeat (first | exact O.out | refine own_below ?_ (Buf.below_drewN (Below.refl _ _) _))), RN, f0, f9, Lib.hid (by repeat (first | exact HB.out | refine Buf.below_drewN ?_ _))⟩
            case measure => simp [intOf]; omega
          · have d1 : decide (v ≤ fx) = false := decide_eq_false c1
            by_cases c2 : t ≤ u
            · have d2 : decide (t ≤ u) = true := decide_eq_true c2
              have RN := Lib.hid (Rk.skip RK.out HQ.out (.inr c2))
              clear RK HQ
              go_wp2_with fail
              go_quiet (fail)
              go_wp2_with fail
              go_roundw
              case rel => exact ⟨kz + 1, fx, N, by omega, rfl, by go_num, Lib.hid (by repeat (first | exact O.out | refine own_below ?_ (Buf.below_drewN (Below.refl _ _) _))), RN, f0, f9, Lib.hid (by repeat (first | exact HB.out | refine Buf.below_drewN ?_ _))⟩
              case measure => simp [intOf]; omega
            · have d2 : decide (t ≤ u) = false := decide_eq_false c2
              have RN := Rk.hit RK.out CB.out HQ.out (by simp only; omega) (by simp only; omega)
              by_cases c3 : fx < u
              · rw [if_pos c3] at RN
                replace RN := Lib.hid RN
                clear RK HQ
                go_wp2_with fail
                go_quiet (fail)
                go_upto_region 12 with fail
                obtain ⟨wp, hwp⟩ : ∃ wp, wp = wr.drewN nq := ⟨_, rfl⟩
                have bp := Lib.hid (show Below wr.heap.size wr wp by rw [hwp]; repeat (first | exact Below.refl _ _ | refine Buf.below_drewN ?_ _))
                have j0' : wp.cell? ⟨gb, kz * 2, none⟩ = some (.int .i64 u) := by rw [hwp]; exact j0
                have j1' : wp.cell? ⟨gb, kz * 2 + 1, none⟩ = some (.int .i64 v) := by rw [hwp]; exact j1
                rw [← hwp]
                clear hwp
                have hb3 := Lib.hid (heap_alloc_new wp (.cells #[.int .i64 fx, .int .i64 u] 49))
                have O3 := Lib.hid (own_below (own_below O.out bp.out) (new_block (w := wp) (.cells #[.int .i64 fx, .int .i64 u] 49)))
                unfold Spans at O3
                rw [hnl.out] at O3
                have one : Hid (∀ uu ∈ [Value.int .i64 fx, .int .i64 u], uu.oneCell' = true) := Lib.hid (by intro uu hu; simp at hu; rcases hu with rfl | rfl <;> rfl)
                have hB3 := Lib.hid (show w2.heap.size ≤ (wp.alloc (.cells #[.int .i64 fx, .int .i64 u] 49)).heap.size by have := HB.out.size; have := bp.out.size; simp; omega)
                go_upto_region 13 with (at_builtin; refine wpList_append_lies _ rfl (.tmp 59) (.tmp 67) 23 rfl w2.heap.size 49 i0 (.agg #[.int .i64 0, .int .i64 0]) 2 16 Try.underlying23 hi hz0 hz1 hz2 rfl (by decide) _ nl (cells2 N) rfl O3.out ⟨wp.heap.size, 0, none⟩ 1 1 [.int .i64 fx, .int .i64 u] rfl rfl (World.news_of_block hb3.out) one.out (by decide) (by unfold maxLen; omega) (by omega) hB3.out _ rfl ?_; intro gq cq w5 O2 G2 hg2 hl2)
                have O5 := Lib.hid (show Spans w5 w2.heap.size (.slice (some ⟨gq, 0, none⟩) (nl + 1) cq) (N ++ [(fx, u)]) by
                  unfold Spans
                  rw [cells2_snoc, List.length_append, hnl.out]
                  exact O2)
                have B5 := Lib.hid (show Below w2.heap.size w2 w5 from (Buf.then_ (Buf.then_ HB.out bp.out) (new_block (w := wp) (.cells #[.int .i64 fx, .int .i64 u] 49))).grown G2 (by have := HB.out.size; have := bp.out.size; simp; omega) (fun b hb => (O3.out.lt b hb).1))
                clear O2 G2 hg2 hl2 O3 hb3 hB3 one bp
                have HBp := Lib.hid (show gb < wp.heap.size from World.block_lt_of_cell? _ _ j1')
                have j5 := Lib.hid (show w5.cell? ⟨gb, kz * 2 + 1, none⟩ = some (.int .i64 v) from by
                  obtain ⟨_, _, gb', e, hgb', _, _, q1, _⟩ := FB.out _ _ HQQ.out
                  cases e
                  exact (B5.out.cell (p := ⟨gb, _, none⟩) hgb').trans q1)
                have j6 := j5.out
                clear j0 j1 j0' j1' cA1
                go_wp2_with fail
                go_roundw
                case rel => exact ⟨kz + 1, max fx v, N ++ [(fx, u)], by omega, rfl, by go_num, O5, RN, by omega, by omega, B5⟩
                case measure => simp [intOf]; omega
              · rw [if_neg c3] at RN
                replace RN := Lib.hid RN
                clear RK HQ
                go_wp2_with fail
                go_quiet (fail)
                go_wp2_with fail
                go_roundw
                case rel => exact ⟨kz + 1, max fx v, N, by omega, rfl, by go_num, Lib.hid (by repeat (first | exact O.out | refine own_below ?_ (Buf.below_drewN (Below.refl _ _) _))), RN, by omega, by omega, Lib.hid (by repeat (first | exact HB.out | refine Buf.below_drewN ?_ _))⟩
                case measure => simp [intOf]; omega
        · have RN := Rk.stop RK.out CA.out HP.out (by rw [← hm.out]; omega)
          have nq : Nat := 0
          by_cases c1 : fx < t
          · rw [if_pos c1] at RN
            replace RN := Lib.hid RN
            clear RK
            go_upto_region 15 with fail
            obtain ⟨wp, hwp⟩ : ∃ wp, wp = wr := ⟨_, rfl⟩
            have bp := Lib.hid (show Below wr.heap.size wr wp by rw [hwp]; repeat (first | exact Below.refl _ _ | refine Buf.below_drewN ?_ _))
            have c1' : wp.cell? ⟨g, kx * 2 + 1, none⟩ = some (.int .i64 t) := by rw [hwp]; exact cA1
            rw [← hwp]
            clear hwp
            have hb3 := Lib.hid (heap_alloc_new wp (.cells #[.int .i64 fx, .int .i64 t] 49))
            have O3 := Lib.hid (own_below (own_below O.out bp.out) (new_block (w := wp) (.cells #[.int .i64 fx, .int .i64 t] 49)))
            unfold Spans at O3
            rw [hnl.out] at O3
            have one : Hid (∀ uu ∈ [Value.int .i64 fx, .int .i64 t], uu.oneCell' = true) := Lib.hid (by intro uu hu; simp at hu; rcases hu with rfl | rfl <;> rfl)
            have hB3 := Lib.hid (show w2.heap.size ≤ (wp.alloc (.cells #[.int .i64 fx, .int .i64 t] 49)).heap.size by have := HB.out.size; have := bp.out.size; simp; omega)
            go_wp2_with (at_builtin; refine wpList_append_lies _ rfl (.tmp 83) (.tmp 91) 23 rfl w2.heap.size 49 i0 (.agg #[.int .i64 0, .int .i64 0]) 2 16 Try.underlying23 hi hz0 hz1 hz2 rfl (by decide) _ nl (cells2 N) rfl O3.out ⟨wp.heap.size, 0, none⟩ 1 1 [.int .i64 fx, .int .i64 t] rfl rfl (World.news_of_block hb3.out) one.out (by decide) (by unfold maxLen; omega) (by omega) hB3.out _ rfl ?_; intro gq cq w5 O2 G2 hg2 hl2)
            have O5 := Lib.hid (show Spans w5 w2.heap.size (.slice (some ⟨gq, 0, none⟩) (nl + 1) cq) (N ++ [(fx, t)]) by
              unfold Spans
              rw [cells2_snoc, List.length_append, hnl.out]
              exact O2)
            have B5 := Lib.hid (show Below w2.heap.size w2 w5 from (Buf.then_ (Buf.then_ HB.out bp.out) (new_block (w := wp) (.cells #[.int .i64 fx, .int .i64 t] 49))).grown G2 (by have := HB.out.size; have := bp.out.size; simp; omega) (fun b hb => (O3.out.lt b hb).1))
            clear O2 G2 hg2 hl2 O3 hb3 hB3 one bp
            go_roundw
            case rel => exact ⟨kx + 1, N ++ [(fx, t)], by omega, by go_num, O5, RN, B5⟩
            case measure => simp [intOf]; omega
          · rw [if_neg c1] at RN
            replace RN := Lib.hid RN
            clear RK
            go_wp2_with fail
            go_roundw
            case rel => exact ⟨kx + 1, N, by omega, by go_num, O, RN, HB⟩
            case measure => simp [intOf]; omega
    · obtain rfl : kx = n := by omega
      have RX := RI.out.is
      rw [take_all A kx (by rw [← hn.out]; exact Nat.le_refl _)] at RX
      have sh := RI.out.short IA.out
      go_wp2_with fail
      go_ret
      exact ⟨⟨_, N, rfl, own_mono O.out B2.out.size, RX, sh⟩, Buf.then_ B2.out HB.out⟩
end Spn
end Go.Proofs.Ytfmhfhggogjbkaa

/- The reference's Minus, Meet and Cut at canonical sets. -/
set_option linter.unusedVariables false
set_option linter.unusedSimpArgs false
namespace Go.Proofs.Ytfmhfhggogjbkaa
open Go.RowKit Dice
namespace Spn
open Sp (cells2 cells2_snoc cells2_get Spans own_kept own_below own_mono own_shape)
set_option maxHeartbeats 4000000 in
set_option maxRecDepth 100000 in
theorem refmeet_canon {w : World} {va vb : Value} {A B : LP} (ha : Its w va A) (hb : Its w vb B) (cA : Canon A) (cB : Canon B) (iA : Inside A 0 64) (iB : Inside B 0 64) (h9a : A.length ≤ 100) (h9b : B.length ≤ 100) :
    Calls Try.prog 19 #[va, vb] w fun e w' => (∃ r N, e = .returned r ∧ Spans w' w.heap.size r N ∧ Is N (fun x => hasB A x && hasB B x) ∧ N.length ≤ 32) ∧ Below w.heap.size w w' := by
  obtain ⟨i0, hi, hz0, hz1, hz2⟩ := info_get infoS
  have NA := Lib.hid (refnormal_canon ha cA (by omega))
  have NB0 := Lib.hid fun (w' : World) (h' : Below w.heap.size w w') => refnormal_canon (hb.keep h') cB (by omega)
  obtain ⟨n, hn⟩ : ∃ n, n = A.length := ⟨_, rfl⟩
  obtain ⟨m, hm⟩ : ∃ m, m = B.length := ⟨_, rfl⟩
  rw [← hn] at h9a
  rw [← hm] at h9b
  replace hn := Lib.hid hn
  replace hm := Lib.hid hm
  have CA := Lib.hid cA
  have CB := Lib.hid cB
  have IA := Lib.hid iA
  have IB := Lib.hid iB
  clear ha hb cA cB iA iB
  go_enter Try.func19, Try.ntmps19
  go_wp2_with fail
  refine NA.out.mono ?_
  rintro e w1 ⟨⟨r, rfl, OA⟩, hb1⟩
  obtain ⟨xa, xc, rfl⟩ := own_len OA
  rw [← hn.out] at OA ⊢
  have NB := Lib.hid (NB0.out _ hb1)
  have FA0 := Lib.hid (fun (j : Nat) (p : Int × Int) (hj : A[j]? = some p) => own_get (L := A) (n := n) OA hj)
  have B1 := Lib.hid hb1
  clear OA hb1 NA NB0
  go_wp2_with fail
  refine NB.out.mono ?_
  rintro e w2 ⟨⟨r, rfl, OB⟩, hb2⟩
  obtain ⟨ya, yc, rfl⟩ := own_len OB
  rw [← hm.out] at OB ⊢
  have FB := Lib.hid (fun (j : Nat) (p : Int × Int) (hj : B[j]? = some p) => own_get (L := B) (n := m) OB hj)
  have FA := Lib.hid (fun (j : Nat) (p : Int × Int) (hj : A[j]? = some p) => show n ≤ xc ∧ ∃ g, xa = some ⟨g, 0, none⟩ ∧ g < w2.heap.size ∧ w2.cell? ⟨g, j * 2, none⟩ = some (.int .i64 p.1) ∧ w2.cell? ⟨g, j * 2 + 1, none⟩ = some (.int .i64 p.2) from by
    obtain ⟨_, h2, g, e, hg, _, c0, c1, _⟩ := FA0.out j p hj
    exact ⟨h2, g, e, Nat.lt_of_lt_of_le hg hb2.size, (hb2.cell (p := ⟨g, _, none⟩) hg).trans c0, (hb2.cell (p := ⟨g, _, none⟩) hg).trans c1⟩)
  have B2 := Lib.hid (Buf.then_ B1.out hb2)
  have B0 := Lib.hid (Below.refl w2.heap.size w2)
  clear OB hb2 NB FA0 B1
  have Z0 : Hid (Spans w2 w2.heap.size (.slice none 0 0) []) := Lib.hid (World.ownsRow_nil _ _ _ _)
  have R0 := Lib.hid (Re.start A B)
  go_wp2_with fail
  go_loopw [7, 8] (fun s i wr => ∃ (kx : Nat) (N : LP), kx ≤ n ∧ i = .int .i64 kx ∧ Hid (Spans wr w2.heap.size s N) ∧ Hid (Re A B kx 0 N) ∧ Hid (Below w2.heap.size w2 wr)) (fun _ i _ => n - (intOf i).toNat)
  case atStart => exact ⟨0, [], Nat.zero_le _, rfl, Z0, R0, B0⟩
  case round =>
    clear B0 Z0 R0
    obtain ⟨kx, N, hk, rfl, O, RI, HB⟩ := hrel
    obtain ⟨sa, sc, rfl⟩ := own_len O.out
    by_cases hlt : kx < n
    · obtain ⟨wo, hwo⟩ : ∃ wo, wo = wr := ⟨_, rfl⟩
      subst hwo
      obtain ⟨⟨lo, t⟩, hp⟩ : ∃ p, A[kx]? = some p := ⟨A[kx]'(by rw [← hn.out]; exact hlt), List.getElem?_eq_getElem _⟩
      obtain ⟨hz2_, g, hxa, hg, q0, q1⟩ := FA.out _ _ hp
      have hin := IA.out _ (List.mem_of_getElem? hp)
      have lt := CA.out.at hp
      dsimp only at hin lt q0 q1
      subst hxa
      have kn : (kx : Int) < (n : Int) := by omega
      have RK := RI
      have HP := Lib.hid hp
      obtain ⟨i1, i2⟩ := hin
      clear q0 q1 hp
      go_wp2_with fail
      go_loopw [7, 9] (fun s v wr => ∃ (kz : Nat) (N : LP), kz ≤ m ∧ v = .int .i64 kz ∧ Hid (Spans wr w2.heap.size s N) ∧ Hid (Re A B kx kz N) ∧ Hid (Below w2.heap.size w2 wr)) (fun _ v _ => m - (intOf v).toNat)
      case atStart => exact ⟨0, N, Nat.zero_le _, rfl, O, RK, HB⟩
      case round =>
        have HBo := HB
        clear O RI RK HB
        obtain ⟨kz, N, hkz, rfl, O, RK, HB⟩ := hrel
        have hr9 := Re.short RK.out IA.out
        obtain ⟨sa, sc, rfl⟩ := own_len O.out
        obtain ⟨nl, hnl'⟩ : ∃ nl, N.length = nl := ⟨_, rfl⟩
        rw [hnl'] at O hr9
        try rw [hnl']
        have hnl := Lib.hid hnl'
        clear hnl'
        by_cases hlz : kz < m
        · obtain ⟨⟨u, v⟩, hq⟩ : ∃ p, B[kz]? = some p := ⟨B[kz]'(by rw [← hm.out]; exact hlz), List.getElem?_eq_getElem _⟩
          obtain ⟨hz1_, hz3_, gb, hya, hgb, _, q0, q1, _⟩ := FB.out _ _ hq
          obtain ⟨_, g', e, _, c0, c1⟩ := FA.out _ _ HP.out
          cases e
          have hinb := IB.out _ (List.mem_of_getElem? hq)
          have uv := CB.out.at hq
          dsimp only at hinb uv
          have V : Hid (∀ w', Below w2.heap.size w2 w' → w'.cell? ⟨g, kx * 2, none⟩ = some (.int .i64 lo) ∧ w'.cell? ⟨g, kx * 2 + 1, none⟩ = some (.int .i64 t) ∧ w'.cell? ⟨gb, kz * 2, none⟩ = some (.int .i64 u) ∧ w'.cell? ⟨gb, kz * 2 + 1, none⟩ = some (.int .i64 v)) := Lib.hid fun w' h => ⟨(h.cell (p := ⟨g, _, none⟩) hg).trans c0, (h.cell (p := ⟨g, _, none⟩) hg).trans c1, (h.cell (p := ⟨gb, _, none⟩) hgb).trans q0, (h.cell (p := ⟨gb, _, none⟩) hgb).trans q1⟩
          subst hya
          have km : (kz : Int) < (m : Int) := by omega
          obtain ⟨u1, u2⟩ := hinb
          have HQ := Lib.hid hq
          obtain ⟨mx, hmx⟩ : ∃ mx, mx = max lo u := ⟨_, rfl⟩
          obtain ⟨mn, hmn⟩ : ∃ mn, mn = min t v := ⟨_, rfl⟩
          have RN := Re.next RK.out CA.out CB.out HP.out HQ.out
          simp only [← hmx, ← hmn] at RN
          have mx0 : 0 ≤ mx := by omega
          have mx9 : mx ≤ 64 := by omega
          have mn0 : 0 ≤ mn := by omega
          have mn9 : mn ≤ 64 := by omega
          replace hmx := Lib.hid hmx
          replace hmn := Lib.hid hmn
          replace RN := Lib.hid RN
          clear c0 c1 q0 q1 hq hz1_ RK HQ
          go_upto_region 9 with fail
          obtain ⟨wq, hwq⟩ : ∃ wq, wq = wr := ⟨_, rfl⟩
          have bq := Lib.hid (show Below wr.heap.size wr wq by rw [hwq]; exact Below.refl _ _)
          have HBq := Lib.hid (Buf.then_ HB.out bq.out)
          have Oq := Lib.hid (own_below O.out bq.out)
          rw [← hwq]
          clear hwq
          go_cut [10] (fun v10 wz => ∃ (w4 : World) (b : Nat), w4 = wz ∧ wq.heap.size ≤ b ∧ v10 = .pointer (some ⟨b, 0, none⟩) ∧ w4.cell? ⟨b, 0, none⟩ = some (.int .i64 mx) ∧ w4.cell? ⟨b, 1, none⟩ = some (.int .i64 mn) ∧ Hid (Below wq.heap.size wq w4))
          case first =>
            obtain ⟨z0, z1, z2, z3⟩ := V.out _ HBq.out
            have ne1 := World.new_ne wq _ z0
            have ne2 := World.new_ne wq _ z2
            go_region_held3 (fun w' => w'.cell? ⟨g, kx * 2, none⟩ = some (.int .i64 lo) ∧ w'.cell? ⟨g, kx * 2 + 1, none⟩ = some (.int .i64 t) ∧ w'.cell? ⟨gb, kz * 2, none⟩ = some (.int .i64 u) ∧ w'.cell? ⟨gb, kz * 2 + 1, none⟩ = some (.int .i64 v)) (go_keep) (fail)
            all_goals go_wp2_with fail
            all_goals go_meet
            all_goals exact ⟨_, _, rfl, Nat.le_refl _, rfl, by rw [hmx.out]; exact (c2 (heap_alloc_new wq _)).1, by rw [hmn.out]; exact (c2 (heap_alloc_new wq _)).2, Lib.hid (Below.drew (new_block _))⟩
          case rest =>
          obtain ⟨w4, b, hw4, hbb, rfl, x0, x1, B4⟩ := hcut
          subst hw4
          have O4 := Lib.hid (own_below Oq.out B4.out)
          have H4 := Lib.hid (Buf.then_ HBq.out B4.out)
          clear O Oq HB HBq bq V hmx hmn B4
          by_cases c1 : mx < mn
          · rw [if_pos c1] at RN
            have d1 : decide (mx < mn) = true := decide_eq_true c1
            go_upto_region 11 with fail
            obtain ⟨wp, hwp⟩ : ∃ wp, wp = w4 := ⟨_, rfl⟩
            have bp := Lib.hid (show Below w4.heap.size w4 wp by rw [hwp]; repeat (first | exact Below.refl _ _ | refine Buf.below_drewN ?_ _))
            have k1' : wp.cell? ⟨b, 0, none⟩ = some (.int .i64 mx) := by rw [hwp]; exact x0
            have k2' : wp.cell? ⟨b, 1, none⟩ = some (.int .i64 mn) := by rw [hwp]; exact x1
            rw [← hwp]
            clear hwp
            have hb3 := Lib.hid (heap_alloc_new wp (.cells #[.int .i64 mx, .int .i64 mn] 49))
            have O3 := Lib.hid (own_below (own_below O4.out bp.out) (new_block (w := wp) (.cells #[.int .i64 mx, .int .i64 mn] 49)))
            unfold Spans at O3
            rw [hnl.out] at O3
            have one : Hid (∀ uu ∈ [Value.int .i64 mx, .int .i64 mn], uu.oneCell' = true) := Lib.hid (by intro uu hu; simp at hu; rcases hu with rfl | rfl <;> rfl)
            have hB3 := Lib.hid (show w2.heap.size ≤ (wp.alloc (.cells #[.int .i64 mx, .int .i64 mn] 49)).heap.size by have := H4.out.size; have := bp.out.size; simp; omega)
            go_wp2_with (at_builtin; refine wpList_append_lies _ rfl (.tmp 55) (.tmp 57) 23 rfl w2.heap.size 49 i0 (.agg #[.int .i64 0, .int .i64 0]) 2 16 Try.underlying23 hi hz0 hz1 hz2 rfl (by decide) _ nl (cells2 N) rfl O3.out ⟨wp.heap.size, 0, none⟩ 1 1 [.int .i64 mx, .int .i64 mn] rfl rfl (World.news_of_block hb3.out) one.out (by decide) (by unfold maxLen; omega) (by omega) hB3.out _ rfl ?_; intro gq cq w5 O2 G2 hg2 hl2)
            have O5 := Lib.hid (show Spans w5 w2.heap.size (.slice (some ⟨gq, 0, none⟩) (nl + 1) cq) (N ++ [(mx, mn)]) by
              unfold Spans
              rw [cells2_snoc, List.length_append, hnl.out]
              exact O2)
            have B5 := Lib.hid (show Below w2.heap.size w2 w5 from (Buf.then_ (Buf.then_ H4.out bp.out) (new_block (w := wp) (.cells #[.int .i64 mx, .int .i64 mn] 49))).grown G2 (by have := H4.out.size; have := bp.out.size; simp; omega) (fun b hb => (O3.out.lt b hb).1))
            clear O2 G2 hg2 hl2 O3 hb3 hB3 one bp
            go_roundw
            case rel => exact ⟨kz + 1, N ++ [(mx, mn)], by omega, by go_num, O5, RN, B5⟩
            case measure => simp [intOf]; omega
          · rw [if_neg c1] at RN
            have d1 : decide (mx < mn) = false := decide_eq_false c1
            go_wp2_with fail
            go_roundw
            case rel => exact ⟨kz + 1, N, by omega, by go_num, O4, RN, H4⟩
            case measure => simp [intOf]; omega
        · have RN := RK.out.turn CA.out HP.out (by rw [← hm.out]; omega)
          replace RN := Lib.hid RN
          clear RK
          go_wp2_with fail
          go_roundw
          case rel => exact ⟨kx + 1, N, by omega, by go_num, O, RN, HB⟩
          case measure => simp [intOf]; omega
    · obtain rfl : kx = n := by omega
      have RX := RI.out.stop (by rw [← hn.out]; exact Nat.le_refl _)
      have sh := RI.out.short IA.out
      have NX := Lib.hid (refnormal_canon (its_of_own O.out) RX.canon (by omega))
      go_wp2_with fail
      refine NX.out.mono ?_
      rintro e w4 ⟨⟨r, rfl, O4⟩, B4⟩
      go_wp2_with fail
      go_ret
      exact ⟨⟨_, N, rfl, own_mono O4 (Nat.le_trans B2.out.size HB.out.size), RX, sh⟩, Buf.then_ (Buf.then_ B2.out HB.out) B4⟩
end Spn
end Go.Proofs.Ytfmhfhggogjbkaa

/- The reference's Cut, Same of two receivers, receiver.Request. -/
set_option linter.unusedVariables false
set_option linter.unusedSimpArgs false
namespace Go.Proofs.Ytfmhfhggogjbkaa
open Go.RowKit Dice Wi
namespace Spn
open Sp (cells2 cells2_snoc cells2_get Spans own_kept own_below own_mono own_shape)
theorem canon_one {x y : Int} (h : x < y) : Canon [(x, y)] := canon_cons.2 ⟨h, fun p hp => (by cases hp), Canon.nil⟩
set_option maxHeartbeats 2000000 in
theorem refcut_canon {w : World} {v : Value} {A : LP} (x y : Int) (h : Its w v A) (cA : Canon A) (iA : Inside A 0 64) (h9 : A.length ≤ 100) (hxy : x < y) (x0 : 0 ≤ x) (y9 : y ≤ 64) :
    Calls Try.prog 30 #[v, .int .i64 x, .int .i64 y] w fun e w' => (∃ r N, e = .returned r ∧ Spans w' w.heap.size r N ∧ Is N (fun z => hasB A z && decide (x ≤ z ∧ z < y)) ∧ N.length ≤ 32) ∧ Below w.heap.size w w' := by
  have H := Lib.hid h
  have CA := Lib.hid cA
  have IA := Lib.hid iA
  clear h cA iA
  have W1 := Lib.hid (new_block (w := w) (.cells #[.int .i64 x, .int .i64 y] 49))
  have K := c2 (heap_alloc_new w (.cells #[.int .i64 x, .int .i64 y] 49))
  have I2 : Hid (Its (w.alloc (.cells #[.int .i64 x, .int .i64 y] 49)) (.slice (some ⟨w.heap.size, 0, none⟩) 1 1) [(x, y)]) := Lib.hid (.inr ⟨_, 1, rfl, Nat.le_refl _, by simp, fun k p hp => by
    have hk : k = 0 := by have := (List.getElem?_eq_some_iff.1 hp).1; simp at this; omega
    subst hk
    simp at hp
    subst hp
    exact K⟩)
  have C := Lib.hid (refmeet_canon (H.out.keep W1.out) I2.out CA.out (canon_one hxy) IA.out (fun p hp => by simp at hp; subst hp; exact ⟨x0, y9⟩) (by omega) (by simp))
  clear K
  go_enter Try.func30, Try.ntmps30
  go_wp2_with (go_at_call 19; with_reducible refine C.out.mono ?_; rintro e w2 ⟨⟨r, N, rfl, O, I, hl⟩, b⟩)
  go_ret
  exact ⟨⟨_, N, rfl, own_mono O W1.out.size, I.congr fun z => by simp [hasB_cons, hasB_nil], hl⟩, Buf.then_ W1.out b⟩
end Spn
namespace Rcv
open Spn
set_option maxHeartbeats 2000000 in
theorem refsame11_any {w : World} {vg vl ug ul : Value} {f g : Int → Bool} (h : Rc w vg vl f g) (k : Rc w ug ul f g) :
    Calls Try.prog 43 #[.agg #[vg, vl], .agg #[ug, ul]] w fun e w' => e = .returned (.bool true) ∧ Below w.heap.size w w' := by
  obtain ⟨ga, gn, gc, la, ln, lc, rfl, rfl⟩ := Rc.form h
  obtain ⟨ga', gn', gc', la', ln', lc', rfl, rfl⟩ := Rc.form k
  obtain ⟨⟨N1, t1, i1, l1, _⟩, ⟨N2, t2, i2, l2, _⟩, _⟩ := h
  obtain ⟨⟨M1, s1, j1, _, _⟩, ⟨M2, s2, j2, _, _⟩, _⟩ := k
  obtain rfl := Is.unique i1 j1
  obtain rfl := Is.unique i2 j2
  have S1 := Lib.hid fun (w' : World) (h' : Below w.heap.size w w') => same_yes (t1.keep h') (s1.keep h') (by omega)
  have S2 := Lib.hid fun (w' : World) (h' : Below w.heap.size w w') => same_yes (t2.keep h') (s2.keep h') (by omega)
  clear t1 t2 s1 s2 i1 i2 j1 j2 l1 l2
  go_enter Try.func43, Try.ntmps43
  have W1 := Lib.hid (Buf.then_ (new_block (w := w) (.cells #[.slice ga gn gc, .slice la ln lc] 46)) (new_block (.cells #[.slice ga' gn' gc', .slice la' ln' lc'] 46)))
  obtain ⟨wb, hwb⟩ : ∃ wb, wb = (w.alloc (.cells #[.slice ga gn gc, .slice la ln lc] 46)).alloc (.cells #[.slice ga' gn' gc', .slice la' ln' lc'] 46) := ⟨_, rfl⟩
  have P1 : Hid (wb.heap[w.heap.size]? = some (.cells #[.slice ga gn gc, .slice la ln lc] 46 (0, 0))) := Lib.hid (by rw [hwb]; exact hop (new_block _) (heap_alloc_new w _))
  have P2 : Hid (wb.heap[w.heap.size + 1]? = some (.cells #[.slice ga' gn' gc', .slice la' ln' lc'] 46 (0, 0))) := Lib.hid (by rw [hwb, show w.heap.size + 1 = (w.alloc (.cells #[.slice ga gn gc, .slice la ln lc] 46)).heap.size by simp]; exact heap_alloc_new _ _)
  rw [← hwb] at W1
  go_upto_region 1 with fail
  rw [← hwb]
  replace hwb := Lib.hid hwb
  obtain ⟨q0, q1⟩ := c2 P1.out
  obtain ⟨q2, q3⟩ := c2 P2.out
  go_wp2_with fail
  refine (S1.out _ W1.out).mono ?_
  rintro e w1 ⟨rfl, b1⟩
  clear q0 q1 q2 q3
  obtain ⟨q0, q1⟩ := c2 (hop b1 P1.out)
  obtain ⟨q2, q3⟩ := c2 (hop b1 P2.out)
  have B1 := Lib.hid (Buf.then_ W1.out b1)
  clear b1
  go_wp2_with fail
  refine (S2.out _ B1.out).mono ?_
  rintro e w2 ⟨rfl, b2⟩
  go_wp2_with fail
  go_ret
  exact ⟨rfl, Buf.then_ B1.out b2⟩
theorem top_unique {f g : Int → Bool} {q t s : Int} (h : TopP f g q t) (k : TopP f g q s) : t = s := by
  obtain ⟨a1, a2, _, a3, a4, a5⟩ := h
  obtain ⟨b1, b2, _, b3, b4, b5⟩ := k
  rcases Int.lt_trichotomy t s with hl | h | hl
  · rcases b5 with h | h | h | h
    · omega
    · omega
    · have := a3 _ h; omega
    · have := a4 _ h; omega
  · exact h
  · rcases a5 with h | h | h | h
    · omega
    · omega
    · have := b3 _ h; omega
    · have := b4 _ h; omega
/-- What Request returns. -/
def Req (f g : Int → Bool) (q n : Int) (B : Nat) (w : World) (e : Ending) : Prop := ∃ v t N, e = .returned (.tuple #[v, .int .i64 0]) ∧ TopP f g q t ∧ Is N (fun x => (decide (0 ≤ x ∧ x < t) && !f x) && !g x) ∧ Sp.Spans w B v (firstL N n)
set_option maxHeartbeats 4000000 in
set_option maxRecDepth 100000 in
theorem request_any {w : World} {vg vl : Value} {f g : Int → Bool} (h : Rc w vg vl f g) (q n : Int) (q0 : 0 ≤ q) (q9 : q < 60) (n0 : 0 ≤ n) (n9 : n ≤ 200) :
    Calls Try.prog 46 #[.agg #[vg, vl], .int .i64 q, .int .i64 n] w fun e w' => Req f g q n w.heap.size w' e ∧ Below w.heap.size w w' := by
  obtain ⟨ga, gn, gc, la, ln, lc, rfl, rfl⟩ := Rc.form h
  have HR := Lib.hid h
  clear h
  go_enter Try.func46, Try.ntmps46
  obtain ⟨wb, hwb⟩ : ∃ wb, wb = w.alloc (.cells #[.slice ga gn gc, .slice la ln lc] 46) := ⟨_, rfl⟩
  have B0 := Lib.hid (show Below w.heap.size w wb by rw [hwb]; exact new_block _)
  have PX : wb.heap[w.heap.size]? = some (.cells #[.slice ga gn gc, .slice la ln lc] 46 (0, 0)) := by rw [hwb]; exact heap_alloc_new w _
  obtain ⟨k0, k1⟩ := c2 PX
  have V := Lib.hid (missing_any (HR.out.keep B0.out) q q0 q9)
  go_upto_region 1 with fail
  rw [← hwb]
  clear hwb
  go_wp2_with fail
  refine V.out.mono ?_
  rintro e w1 ⟨⟨v, t, he, hT, hS⟩, hb⟩
  subst he
  have HT := Lib.hid hT
  obtain ⟨N, hN, hI, hl, hn⟩ := hS
  have F := Lib.hid fun (m : Nat) => first_any n (hN.keep (Buf.below_drewN (Below.refl _ w1) m)) (fun p hp => ⟨(hn p hp).1, by have := (hn p hp).2; omega⟩) (by omega) n0 (by omega)
  have HI := Lib.hid hI
  have B1 := Lib.hid (Buf.then_ B0.out hb)
  obtain ⟨va, vn, vc, rfl, _⟩ : ∃ a n c, v = .slice a n c ∧ True := by obtain ⟨a, c, e, _⟩ := its_form hN; exact ⟨a, _, c, e, trivial⟩
  clear hT hN hI hl hn hb k0 k1 PX V
  go_wp2_with (go_at_call 64; refine (within_yes n 0 256 _ (by omega) (by omega)).mono ?_; rintro e w2 ⟨rfl, m, rfl⟩)
  refine (F.out _).mono ?_
  rintro e w3 ⟨⟨r, N', hN', _, rfl, O⟩, hb⟩
  obtain rfl := Is.unique hN' (Is.self HI.out.canon)
  go_wp2_with fail
  go_ret2
  exact ⟨⟨_, t, N', rfl, HT.out, HI.out, Sp.own_mono O B1.out.size⟩, Buf.then_ (Buf.below_drewN B1.out _) hb⟩
end Rcv
end Go.Proofs.Ytfmhfhggogjbkaa
