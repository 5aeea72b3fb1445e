/- The walk of DetectorTriggers. -/
import Derived.Test.YtldaocfkmahedaaDoorDetG
import Derived.Test.YtldaocfkmahedaaDoorDetF
import Derived.Test.YtldaocfkmahedaaDoorDetW
import Derived.Test.YtldaocfkmahedaaDoorDetU
import Derived.Lib.MinMax
import Derived.Laws.StructEq
import Derived.Deep.DeepCutAuto
set_option linter.unusedVariables false
set_option linter.unusedSimpArgs false
namespace Go.Proofs.YtldaocfkmahedaaDoor
open Go.RowKit Wi Dice
namespace Laws
open Det
set_option maxHeartbeats 8000000 in
set_option maxRecDepth 100000 in
theorem detectorTriggers_walk (a0 : Option Addr) (len0 cap0 : Nat) (z0 : List Int) (w : World) (hcl : Cl w) (w0 : Buf.IsRow .i64 w a0 len0 cap0 z0) :
    Calls Tryd.prog 5 #[.slice a0 len0 cap0] w fun e w' => e = .returned (.bool true) ∧ Below w.heap.size w w' := by
  have HC := Lib.hid hcl
  by_cases hs : len0 ≤ 500
  · have hd : decide ((len0 : Int) ≤ 500) = true := by simp; omega
    go_enter Tryd.func5, Tryd.ntmps5
    go_upto_region 4 with (first | (go_at_call 6; refine (light_any _ _ _ _).mono ?_; rintro e w1 ⟨rfl, rfl⟩; rw [hd]) | (go_at_call 8; refine (roll_any a0 len0 cap0 z0 _ w0 hs).mono ?_; rintro e w2 ⟨rfl, hdi⟩))
    have hdl := hdi.lt
    go_wp2_with fail
    refine (detector_any hdi).mono ?_
    rintro e w3 ⟨⟨S, L, ON, OFF, rfl, dg, hL⟩, hl⟩
    replace dg := Lib.hid dg
    have D3 := Lib.hid hl
    clear hl
    go_wp2_with fail
    refine (wave_small 50 (by decide) (by decide) D3.out.di).mono ?_
    rintro e w4 ⟨⟨xv, x, rfl, hox, hin, hx1, hx50⟩, hl⟩
    have WW := Lib.hid hl.di.bel
    have h3 := D3.out.far.size
    obtain ⟨xa, c, rfl, hc, c9, h0⟩ := sv_own hox
    obtain ⟨b, off, rfl, hlt, hcell⟩ := h0 (by omega)
    go_upto_region 5 with fail
    obtain ⟨w5, hw5⟩ : ∃ w5, w5 = w4.alloc (.cells #[.int .i64 S, .int .i64 L, .int .i64 ON, .int .i64 OFF] 29) := ⟨_, rfl⟩
    have hb5 : Below w4.heap.size w4 w5 := by rw [hw5]; exact new_block _
    obtain ⟨p8, hp8⟩ : ∃ p, p = w4.heap.size := ⟨_, rfl⟩
    have KA := Lib.hid (show w5.heap[p8]? = some (.cells #[.int .i64 S, .int .i64 L, .int .i64 ON, .int .i64 OFF] 29 (0, 0)) by rw [hw5, hp8]; exact heap_alloc_new w4 _)
    have SX := Lib.hid ((sv_own hox).below hb5)
    replace WW := Lib.hid (WW.out.trans (hb5.mono (by have := WW.out.size; omega)))
    rw [← hw5, ← hp8]
    have hb' : b < p8 := by rw [hp8]; exact hlt
    clear hw5 hb5 hp8 hl hox h0 hcell hlt D3 hdi h3
    generalize hxl : x.length = N at *
    replace hxl := Lib.hid hxl
    replace hin := Lib.hid hin
    have CL5 := Lib.hid (hbk WW.out HC.out)
    have X0 : Hid (∀ j, j < N → -1073741823 ≤ fn x j ∧ fn x j ≤ 1073741823) := Lib.hid fun j hj => by have := hin.out j (by rw [hxl.out]; exact hj); omega
    have VB : Hid (∀ j, j < N → 0 ≤ ab (fn x) j ∧ ab (fn x) j ≤ 1073741823) := Lib.hid fun j hj => by
      have := X0.out j hj
      show 0 ≤ max (fn x j) (-fn x j) ∧ max (fn x j) (-fn x j) ≤ 1073741823
      omega
    have V0 : Hid (∀ j, 0 ≤ ab (fn x) j) := Lib.hid fun j => by show 0 ≤ max (fn x j) (-fn x j); omega
    obtain ⟨q0, q1, q2, q3⟩ := c4 KA.out
    have s1 := dg.out.s1
    have sl := dg.out.sl
    have l9 := dg.out.l9
    have f1 := dg.out.f1
    have fo := dg.out.fo
    have o9 := dg.out.o9
    simp only at s1 sl l9 f1 fo o9
    go_upto_region 5 with fail
    go_wp2_with fail
    refine (run_any dg.out SX.out (by omega) X0.out CL5.out).mono ?_
    rintro e w6 ⟨⟨lv, rfl, ho⟩, hb⟩
    have T1 := Lib.hid (ts_of ho)
    have hn1 := runL_len ⟨S, L, ON, OFF⟩ (ab (fn x)) N
    obtain ⟨l, hl⟩ : ∃ l, l = runL ⟨S, L, ON, OFF⟩ (ab (fn x)) N := ⟨_, rfl⟩
    rw [← hl] at T1 hn1
    generalize hnn : l.length = n1 at *
    have M0 : Hid (TrM w6 S L ON OFF p8 (.slice (some ⟨b, off, none⟩) N c) N x lv n1 l) := Lib.hid ⟨hbk hb KA.out, SX.out.below hb, T1.out, hbk hb CL5.out⟩
    replace WW := Lib.hid (Buf.then_ WW.out hb)
    replace hl := Lib.hid hl
    replace hnn := Lib.hid hnn
    obtain ⟨la, lc, rfl, hq9, l2, l3, hq8⟩ := T1.out
    clear hq9 hq8
    clear ho hb q0 q1 q2 q3 SX KA CL5 T1 HC
    obtain ⟨q0, q1, q2, q3⟩ := c4 M0.out.det
    go_wp2_with fail
    go_loopw [8, 9, 10] (fun v8 v9 v10 wr => ∃ (i k : Nat) (e : List Tr) (o : Tr), L ≤ i + 1 ∧ v8 = .bool (decide (0 ≤ o.on)) ∧ v9 = .int .i64 k ∧ v10 = .int .i64 i ∧ k ≤ 51 ∧ i ≤ 600 ∧ Hid (k = e.length) ∧ Hid (scn ⟨S, L, ON, OFF⟩ (ab (fn x)) (min i N) = (e, o)) ∧ Hid (TrM wr S L ON OFF p8 (.slice (some ⟨b, off, none⟩) N c) N x (.slice la n1 lc) n1 l) ∧ Hid (Below w1.heap.size w1 wr)) (fun _ _ i _ => N - (intOf i).toNat)
    case atStart =>
      refine ⟨L - 1, 0, [], ⟨-1, 0, 0⟩, by omega, rfl, rfl, by go_num, by omega, by omega, Lib.hid rfl, Lib.hid (flat_short _ _ _ (by simp only; omega)), M0, WW⟩
    case round =>
      clear M0 WW q0 q1 q2 q3
      obtain ⟨i, k, e, o, hLi, rfl, rfl, rfl, hk51, hi600, hke, hs, M, WB⟩ := hrel
      obtain ⟨q0, q1, q2, q3⟩ := c4 M.out.det
      by_cases hlt : i < N
      · have hsi : Hid (scn ⟨S, L, ON, OFF⟩ (ab (fn x)) i = (e, o)) := Lib.hid (by have := hs.out; rwa [show min i N = i by omega] at this)
        clear hs
        have wb1 := part_bd VB.out (by omega) (i + 1) S (by omega)
        have wb2 := part_bd VB.out (by omega) (i + 1) L (by omega)
        rw [show psum (ab (fn x)) (i + 1) - psum (ab (fn x)) (i + 1 - S) = win (ab (fn x)) S i from rfl] at wb1
        rw [show psum (ab (fn x)) (i + 1) - psum (ab (fn x)) (i + 1 - L) = win (ab (fn x)) L i from rfl] at wb2
        go_wp2_with fail
        refine (ratio_any dg.out M.out.sv (by omega) X0.out hLi hlt).mono ?_
        rintro e' w7 ⟨rfl, hb⟩
        replace M := Lib.hid (M.out.below hb)
        replace WB := Lib.hid (Buf.then_ WB.out hb)
        clear hb q0 q1 q2 q3
        obtain ⟨sh, hsh⟩ : ∃ sh, sh = win (ab (fn x)) S i := ⟨_, rfl⟩
        obtain ⟨lo, hlo⟩ : ∃ lo, lo = win (ab (fn x)) L i := ⟨_, rfl⟩
        rw [← hsh] at wb1 ⊢
        rw [← hlo] at wb2 ⊢
        replace hsh := Lib.hid hsh
        replace hlo := Lib.hid hlo
        go_upto_region 13 with fail
        obtain ⟨w8, hw8⟩ : ∃ w8, w8 = (w7.alloc (.cells #[.int .i64 sh] 3)).alloc (.cells #[.int .i64 lo] 3) := ⟨_, rfl⟩
        have B8 : Below w7.heap.size w7 w8 := by rw [hw8]; exact Buf.then_ (new_block _) (new_block _)
        have KS : w8.cell? ⟨w7.heap.size, 0, none⟩ = some (.int .i64 sh) := by
          rw [hw8]
          exact cell_of_row _ w7.heap.size 0 _ _ _ ((heap_alloc_old (w7.alloc (.cells #[.int .i64 sh] 3)) _ (by simp)).trans (heap_alloc_new w7 _))
        have KL : w8.cell? ⟨w7.heap.size + 1, 0, none⟩ = some (.int .i64 lo) := by
          rw [hw8]
          have hn := heap_alloc_new (w7.alloc (.cells #[.int .i64 sh] 3)) (.cells #[.int .i64 lo] 3)
          rw [show (w7.alloc (.cells #[.int .i64 sh] 3)).heap.size = w7.heap.size + 1 by simp] at hn
          exact cell_of_row _ (w7.heap.size + 1) 0 _ _ _ hn
        rw [← hw8]
        replace M := Lib.hid (M.out.below B8)
        replace WB := Lib.hid (Buf.then_ WB.out B8)
        replace KS := Lib.hid KS
        replace KL := Lib.hid KL
        clear hw8 B8
        obtain ⟨q0, q1, q2, q3⟩ := c4 M.out.det
        have hL1 : 1 ≤ (⟨S, L, ON, OFF⟩ : Dt).L := by show 1 ≤ L; omega
        have hw : Hid (¬ i + 1 < (⟨S, L, ON, OFF⟩ : Dt).L) := Lib.hid (by show ¬ i + 1 < L; omega)
        by_cases ho : 0 ≤ o.on
        · have ho' : Hid (¬ o.on < 0) := Lib.hid (by omega)
          have odf : Hid (true = decide (0 ≤ o.on)) := Lib.hid ((decide_eq_true ho).symm)
          have RC := Lib.hid (reach_any dg.out M.out.det KS.out KL.out wb1.1 (by omega) wb2.1 (by omega) f1 (by omega) : Calls Tryd.prog 15 #[.int .i64 OFF, .pointer (some ⟨w7.heap.size + 1, 0, none⟩), .pointer (some ⟨w7.heap.size, 0, none⟩), .pointer (some ⟨p8, 0, none⟩)] w8 _)
          rw [decide_eq_true ho]
          go_wp2_with fail
          refine RC.out.mono ?_
          rintro e2 w9 ⟨rfl, m, rfl⟩
          have WN := Lib.hid (Buf.below_drewN WB.out m)
          have MN := Lib.hid (M.out.below (Buf.below_drewN (Below.refl w8.heap.size w8) m))
          clear RC q0 q1 q2 q3
          by_cases hr : rch S L sh lo OFF = true
          · have HN : Hid (scn ⟨S, L, ON, OFF⟩ (ab (fn x)) (min (i + 1) N) = (e, ⟨o.on, o.off, max o.pk (ab (fn x) i)⟩)) := Lib.hid (by
              rw [show min (i + 1) N = i + 1 by omega]
              exact (scn_next hsi.out).trans (Det.step_peak _ _ _ _ _ hw.out (by have := ho'.out; omega) (by rw [← hsh.out, ← hlo.out]; exact hr)))
            have od : Hid (true = decide (0 ≤ (⟨o.on, o.off, max o.pk (ab (fn x) i)⟩ : Tr).on)) := Lib.hid odf.out
            rw [hr]
            clear M WB hsi
            go_wp2_with fail
            go_roundw
            case rel => exact ⟨i + 1, k, e, ⟨o.on, o.off, max o.pk (ab (fn x) i)⟩, by omega, congrArg Value.bool od.out, rfl, by go_num, by omega, by omega, hke, HN, MN, WN⟩
            case measure => simp [intOf]; omega
          · have hr' : rch S L sh lo OFF = false := by simpa using hr
            have HN := (scn_next hsi.out).trans (Det.step_end _ _ _ _ _ hw.out (by have := ho'.out; omega) (by rw [← hsh.out, ← hlo.out]; exact hr'))
            obtain ⟨rest, hre, _⟩ := aft_at hL1 V0.out hl.out HN (by omega)
            have hlk : l[k]? = some ⟨o.on, i, o.pk⟩ := by rw [hre, hke.out]; simp
            have HN' : Hid (scn ⟨S, L, ON, OFF⟩ (ab (fn x)) (min (i + 1) N) = (e ++ [⟨o.on, i, o.pk⟩], ⟨-1, 0, 0⟩)) := Lib.hid (by
              rw [show min (i + 1) N = i + 1 by omega]; exact HN)
            obtain ⟨g, rfl, hkn, hg, z0, z1, z2⟩ := MN.out.ts.at hlk
            have hke' : Hid (k + 1 = (e ++ [⟨o.on, i, o.pk⟩] : List Tr).length) := Lib.hid (by rw [hke.out]; simp)
            simp only at z0 z1 z2
            rw [hr']
            clear M WB hsi HN hre hlk hke
            go_wp2_with fail
            go_roundw
            case rel => exact ⟨i + 1, k + 1, _, ⟨-1, 0, 0⟩, by omega, rfl, by go_num, by go_num, by omega, by omega, hke', HN', MN, WN⟩
            case measure => simp [intOf]; omega
        · have ho' : Hid (o.on < 0) := Lib.hid (by omega)
          have odf : Hid (false = decide (0 ≤ o.on)) := Lib.hid ((decide_eq_false ho).symm)
          have RC := Lib.hid (reach_any dg.out M.out.det KS.out KL.out wb1.1 (by omega) wb2.1 (by omega) (by omega) o9 : Calls Tryd.prog 15 #[.int .i64 ON, .pointer (some ⟨w7.heap.size + 1, 0, none⟩), .pointer (some ⟨w7.heap.size, 0, none⟩), .pointer (some ⟨p8, 0, none⟩)] w8 _)
          rw [decide_eq_false ho]
          go_wp2_with fail
          refine RC.out.mono ?_
          rintro e2 w9 ⟨rfl, m, rfl⟩
          have WN := Lib.hid (Buf.below_drewN WB.out m)
          have MN := Lib.hid (M.out.below (Buf.below_drewN (Below.refl w8.heap.size w8) m))
          clear RC q0 q1 q2 q3
          by_cases hr : rch S L sh lo ON = true
          · have HN := (scn_next hsi.out).trans (Det.step_open _ _ _ _ _ hw.out ho'.out (by rw [← hsh.out, ← hlo.out]; exact hr))
            obtain ⟨rest, hre, hop⟩ := aft_at hL1 V0.out hl.out HN (by omega)
            obtain ⟨t, r, hre2, ht, _, _⟩ := hop (by simp only; omega)
            have hlk : l[k]? = some t := by rw [hre, hre2, hke.out]; simp
            have HN' : Hid (scn ⟨S, L, ON, OFF⟩ (ab (fn x)) (min (i + 1) N) = (e, ⟨i, -1, ab (fn x) i⟩)) := Lib.hid (by
              rw [show min (i + 1) N = i + 1 by omega]; exact HN)
            obtain ⟨g, rfl, hkn, hg, z0, z1, z2⟩ := MN.out.ts.at hlk
            rw [ht] at z0
            simp only at z0
            have od : Hid (true = decide (0 ≤ (⟨i, -1, ab (fn x) i⟩ : Tr).on)) := Lib.hid ((decide_eq_true (by simp only; omega)).symm)
            have hkn' : (k : Int) < n1 := by omega
            rw [hr]
            clear M WB hsi HN hre hre2 hop hlk ht
            go_wp2_with fail
            go_roundw
            case rel => exact ⟨i + 1, k, e, ⟨i, -1, ab (fn x) i⟩, by omega, congrArg Value.bool od.out, rfl, by go_num, by omega, by omega, hke, HN', MN, WN⟩
            case measure => simp [intOf]; omega
          · have hr' : rch S L sh lo ON = false := by simpa using hr
            have HN : Hid (scn ⟨S, L, ON, OFF⟩ (ab (fn x)) (min (i + 1) N) = (e, o)) := Lib.hid (by
              rw [show min (i + 1) N = i + 1 by omega]
              exact (scn_next hsi.out).trans (Det.step_idle _ _ _ _ _ hw.out ho'.out (by rw [← hsh.out, ← hlo.out]; exact hr')))
            have od := odf
            rw [hr']
            clear M WB hsi
            go_wp2_with fail
            go_roundw
            case rel => exact ⟨i + 1, k, e, o, by omega, congrArg Value.bool od.out, rfl, by go_num, by omega, by omega, hke, HN, MN, WN⟩
            case measure => simp [intOf]; omega
      · have hmin : min i N = N := by omega
        have hln : l = e ++ (if o.on < 0 then [] else [o]) := by
          have h1 := hl.out
          have h2 := hs.out
          rw [hmin] at h2
          unfold runL at h1
          rw [h2] at h1
          exact h1
        have hln' : n1 = k + (if o.on < 0 then 0 else 1) := by
          rw [← hnn.out, hln, hke.out, List.length_append]
          split <;> rfl
        replace hln' := Lib.hid hln'
        have EA := Lib.hid (fun (i : Nat) (t : Tr) (h : l[i]? = some t) => (by
          have h1 := runL_each ⟨S, L, ON, OFF⟩ (ab (fn x)) (by show 1 ≤ L; omega) V0.out N i t (by rw [← hl.out]; exact h)
          rw [← hl.out, hnn.out] at h1
          exact h1 : _ ∧ _ ∧ _ ∧ _ ∧ _))
        clear hln hmin hs hke
        go_wp2_with fail
        go_loopw [100] (fun v wr => ∃ j : Nat, j ≤ n1 ∧ v = .int .i64 j ∧ Hid (TrM wr S L ON OFF p8 (.slice (some ⟨b, off, none⟩) N c) N x (.slice la n1 lc) n1 l) ∧ Hid (Below w1.heap.size w1 wr)) (fun v _ => n1 - (intOf v).toNat)
        case atStart => exact ⟨0, by omega, rfl, M, WB⟩
        case round =>
          clear M WB q0 q1 q2 q3
          obtain ⟨j, hj, rfl, M, WB⟩ := hrel
          by_cases hlt : j < n1
          · obtain ⟨t, ht⟩ : ∃ t, l[j]? = some t := ⟨l[j]'(by rw [hnn.out]; exact hlt), by simp⟩
            obtain ⟨g, rfl, _, hg, z0, z1, z2⟩ := M.out.ts.at ht
            obtain ⟨_, g1, ⟨z, hz, g2, g3, g4⟩, g5, g6⟩ := EA.out j t ht
            obtain ⟨on, off', pk⟩ := t
            simp only at z0 z1 z2 g1 hz g2 g3 g4 g5 g6
            obtain ⟨a, rfl⟩ : ∃ a : Nat, on = (a : Int) := ⟨on.toNat, by omega⟩
            rw [show ((a : Int)).toNat = a by omega] at g4
            replace g4 := Lib.hid g4
            replace g6 := Lib.hid g6
            have jn : ((j : Nat) : Int) < (n1 : Int) := by omega
            go_upto_region 27 with fail
            obtain ⟨w9, hw9⟩ : ∃ w9, w9 = wr.alloc (.cells #[.int .i64 (a : Int), .int .i64 off', .int .i64 pk] 37) := ⟨_, rfl⟩
            obtain ⟨p16, hp16⟩ : ∃ p, p = wr.heap.size := ⟨_, rfl⟩
            have hb9 : Below wr.heap.size wr w9 := by rw [hw9]; exact new_block _
            have KT := Lib.hid (show w9.heap[p16]? = some (.cells #[.int .i64 (a : Int), .int .i64 off', .int .i64 pk] 37 (0, 0)) by rw [hw9, hp16]; exact heap_alloc_new wr _)
            rw [← hw9, ← hp16]
            have hgw := Lib.hid (Nat.lt_of_lt_of_le hg hb9.size)
            have z1' := (hb9.cell (p := ⟨g, j * 3 + 1, none⟩) hg).trans z1
            replace M := Lib.hid (M.out.below hb9)
            replace WB := Lib.hid (Buf.then_ WB.out hb9)
            have g7 : Hid (j ≠ 0 → ∃ uo : Int, w9.cell? ⟨g, (j - 1) * 3 + 1, none⟩ = some (.int .i64 uo) ∧ 0 ≤ uo ∧ uo ≤ a) := Lib.hid fun h0 => by
              obtain ⟨u, hu⟩ : ∃ u, l[j - 1]? = some u := ⟨l[j - 1]'(by rw [hnn.out]; omega), by simp⟩
              obtain ⟨g', e1, _, _, _, y1, _⟩ := M.out.ts.at hu
              cases e1
              have := g6.out u h0 hu
              exact ⟨u.off, y1, this.1, this.2⟩
            clear hw9 hp16 hb9 z0 z1 z2 z1' g6 ht
            obtain ⟨t0, t1, t2⟩ := c3 KT.out
            go_upto_if 108 with (fail)
            go_cut [17] (fun v wx => v = .int .i64 (z : Int) ∧ w9 = wx)
            case first =>
              by_cases ho : off' < 0
              · rw [if_pos ho] at hz
                go_wp2_with fail
                go_meet
                exact ⟨by rw [hz], rfl⟩
              · rw [if_neg ho] at hz
                go_wp2_with fail
                go_meet
                exact ⟨by rw [hz], rfl⟩
            case rest =>
              obtain ⟨rfl, rfl⟩ := hcut
              replace hz := Lib.hid hz
              have P0 : Hid ((0 : Int) = pkf (ab (fn x)) a 0) := Lib.hid rfl
              go_wp2_with fail
              go_loopw [18, 19] (fun v18 v19 wq => ∃ (c : Nat) (pv : Int), a + c ≤ z ∧ v18 = .int .i64 pv ∧ v19 = .int .i64 ((a + c : Nat) : Int) ∧ 0 ≤ pv ∧ pv ≤ 1073741823 ∧ Hid (pv = pkf (ab (fn x)) a c) ∧ Hid (Below w9.heap.size w9 wq)) (fun _ v _ => z - (intOf v).toNat)
              case atStart => exact ⟨0, 0, by omega, rfl, rfl, by omega, by omega, P0, Lib.hid (Below.refl _ _)⟩
              case round =>
                obtain ⟨c, pv, hc1, rfl, rfl, pv0, pv9, hpv, WQ⟩ := hrel
                by_cases hltc : a + c < z
                · obtain ⟨_, _, xe, _, _, hx3⟩ := M.out.sv
                  cases xe
                  obtain ⟨_, _, xe2, hbx, hxc⟩ := hx3 (by omega)
                  cases xe2
                  have cx : wr.cell? ⟨b, off + (a + c), none⟩ = some (.int .i64 (fn x (a + c))) := (WQ.out.cell (p := ⟨b, off + (a + c), none⟩) hbx).trans (hxc (a + c) (by omega))
                  have xb := X0.out (a + c) (by omega)
                  have HP : Hid (max pv (max (fn x (a + c)) (-fn x (a + c))) = pkf (ab (fn x)) a (c + 1)) := Lib.hid (by rw [hpv.out]; rfl)
                  have hP9 : 0 ≤ max pv (max (fn x (a + c)) (-fn x (a + c))) ∧ max pv (max (fn x (a + c)) (-fn x (a + c))) ≤ 1073741823 := by omega
                  clear hxc hx3
                  obtain ⟨q, hq⟩ : ∃ q : Nat, Hid (q = a + c) := ⟨_, Lib.hid rfl⟩
                  rw [← hq.out] at cx xb HP hP9 hltc ⊢
                  have hqN : (q : Int) < (N : Int) := by omega
                  generalize fn x q = xq at *
                  go_upto_region 34 with fail
                  go_quiet (fail)
                  go_wp2_with fail
                  go_roundw
                  case rel => exact ⟨c + 1, max pv (max xq (-xq)), by have := hq.out; omega, rfl, by have := hq.out; go_num, hP9.1, hP9.2, HP, Lib.hid (Buf.below_drewN WQ.out _)⟩
                  case measure => simp [intOf]; omega
                · have hcz : c = z - a := by omega
                  replace hpv := Lib.hid (show pv = pk by rw [hpv.out, g4.out, hcz])
                  obtain rfl : pv = pk := hpv.out
                  have hacz : a + c = z := by omega
                  rw [hacz]
                  replace M := Lib.hid (M.out.below WQ.out)
                  replace WB := Lib.hid (Buf.then_ WB.out WQ.out)
                  have KT' := Lib.hid (hbk WQ.out KT.out)
                  clear t0 t1 t2 hcz hacz hltc KT hpv P0
                  obtain ⟨t0, t1, t2⟩ := c3 KT'.out
                  replace g7 := Lib.hid (fun h0 => (by
                    obtain ⟨uo, y1, y2, y3⟩ := g7.out h0
                    have hgl : g < w9.heap.size := hgw.out
                    exact ⟨uo, (WQ.out.cell (p := ⟨g, (j - 1) * 3 + 1, none⟩) hgl).trans y1, y2, y3⟩ : ∃ uo : Int, wr.cell? ⟨g, (j - 1) * 3 + 1, none⟩ = some (.int .i64 uo) ∧ 0 ≤ uo ∧ uo ≤ a))
                  have d1 : decide ((z : Int) ≤ (a : Int)) = false := decide_eq_false (by omega)
                  have d1n : decide (z ≤ a) = false := decide_eq_false (by omega)
                  have d0 : (pv != pv) = false := by simp
                  by_cases ho : off' < 0
                  · have d2 : decide (off' < 0) = true := decide_eq_true ho
                    have hj1 := g5 ho
                    clear g5
                    by_cases h0 : j = 0
                    · subst h0
                      have hj2 : decide (((0 : Nat) : Int) + 1 < (n1 : Int)) = false := decide_eq_false (by omega)
                      have hj2n : decide (0 + 1 < n1) = false := decide_eq_false (by omega)
                      have hj2m : decide (1 < n1) = false := decide_eq_false (by omega)
                      have hj2' : decide ((1 : Int) < (n1 : Int)) = false := decide_eq_false (by omega)
                      go_wp2_with fail
                      go_quiet (fail)
                      go_wp2_with fail
                      go_roundw
                      case rel => exact ⟨0 + 1, by omega, by go_num, Lib.hid (M.out.below (Buf.below_drewN (Below.refl wr.heap.size wr) _)), Lib.hid (Buf.below_drewN WB.out _)⟩
                      case measure => simp [intOf]; omega
                    · obtain ⟨uo, y1, y2, y3⟩ := g7.out h0
                      obtain ⟨j', rfl⟩ : ∃ j', j = j' + 1 := ⟨j - 1, by omega⟩
                      rw [Nat.add_sub_cancel] at y1
                      have d3n : decide (0 < j' + 1) = true := decide_eq_true (by omega)
                      have d3 : decide ((0 : Int) < ((j' + 1 : Nat) : Int)) = true := decide_eq_true (by omega)
                      have d4 : decide ((a : Int) < uo) = false := decide_eq_false (by omega)
                      have d5 : ((j' + 1 : Nat) : Int) - 1 = (j' : Int) := by omega
                      have d6 : (j' : Int) < (n1 : Int) := by omega
                      have hj2n : decide (j' + 1 + 1 < n1) = false := decide_eq_false (by omega)
                      have hj2 : decide (((j' + 1 : Nat) : Int) + 1 < (n1 : Int)) = false := decide_eq_false (by omega)
                      clear g7 h0
                      go_wp2_with fail
                      go_quiet (fail)
                      go_wp2_with fail
                      go_roundw
                      case rel => exact ⟨j' + 1 + 1, by omega, by go_num, Lib.hid (M.out.below (Buf.below_drewN (Below.refl wr.heap.size wr) _)), Lib.hid (Buf.below_drewN WB.out _)⟩
                      case measure => simp [intOf]; omega
                  · have d2 : decide (off' < 0) = false := decide_eq_false ho
                    clear g5
                    by_cases h0 : j = 0
                    · subst h0
                      go_wp2_with fail
                      go_quiet (fail)
                      go_wp2_with fail
                      go_roundw
                      case rel => exact ⟨0 + 1, by omega, by go_num, Lib.hid (M.out.below (Buf.below_drewN (Below.refl wr.heap.size wr) _)), Lib.hid (Buf.below_drewN WB.out _)⟩
                      case measure => simp [intOf]; omega
                    · obtain ⟨uo, y1, y2, y3⟩ := g7.out h0
                      obtain ⟨j', rfl⟩ : ∃ j', j = j' + 1 := ⟨j - 1, by omega⟩
                      rw [Nat.add_sub_cancel] at y1
                      have d3n : decide (0 < j' + 1) = true := decide_eq_true (by omega)
                      have d3 : decide ((0 : Int) < ((j' + 1 : Nat) : Int)) = true := decide_eq_true (by omega)
                      have d4 : decide ((a : Int) < uo) = false := decide_eq_false (by omega)
                      have d5 : ((j' + 1 : Nat) : Int) - 1 = (j' : Int) := by omega
                      have d6 : (j' : Int) < (n1 : Int) := by omega
                      clear g7 h0
                      go_wp2_with fail
                      go_quiet (fail)
                      go_wp2_with fail
                      go_roundw
                      case rel => exact ⟨j' + 1 + 1, by omega, by go_num, Lib.hid (M.out.below (Buf.below_drewN (Below.refl wr.heap.size wr) _)), Lib.hid (Buf.below_drewN WB.out _)⟩
                      case measure => simp [intOf]; omega
          · have SN := Lib.hid (sane_any M.out.cl)
            clear EA
            by_cases ho : 0 ≤ o.on
            · have hq := hln'.out
              rw [if_neg (by omega)] at hq
              obtain rfl := hq
              obtain rfl : j = k + 1 := by omega
              have e1 : (((k + 1 : Nat) : Int) == (k : Int)) = false := by rw [beq_eq_false_iff_ne]; omega
              rw [decide_eq_true ho]
              go_wp2_with (go_at_call 7; with_reducible refine SN.out.mono ?_; rintro e w9 ⟨rfl, hb⟩)
              go_ret
              exact ⟨rfl, Buf.then_ WB.out hb⟩
            · have hq := hln'.out
              rw [if_pos (by omega)] at hq
              have hk' : k = n1 := by omega
              have hj' : j = n1 := by omega
              subst hk' hj'
              clear hq hln' hlt hj
              rw [decide_eq_false ho]
              go_wp2_with (go_at_call 7; with_reducible refine SN.out.mono ?_; rintro e w9 ⟨rfl, hb⟩)
              go_ret
              exact ⟨rfl, Buf.then_ WB.out hb⟩
  · have hd : decide ((len0 : Int) ≤ 500) = false := by simp; omega
    have SN := Lib.hid (sane_any hcl)
    go_enter Tryd.func5, Tryd.ntmps5
    go_wp2_with (first | (go_at_call 6; refine (light_any _ _ _ _).mono ?_; rintro e w1 ⟨rfl, rfl⟩; rw [hd]) | (go_at_call 7; with_reducible refine SN.out.mono ?_; rintro e w2 ⟨rfl, hc⟩))
    go_ret
    exact ⟨rfl, hc⟩
end Laws
end Go.Proofs.YtldaocfkmahedaaDoor
