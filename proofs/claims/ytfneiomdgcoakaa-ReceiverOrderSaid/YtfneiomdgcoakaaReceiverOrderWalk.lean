/- The walk of ReceiverOrder. -/
import Derived.Test.YtfneiomdgcoakaaRfH
import Derived.Lib.MinMax
set_option linter.unusedVariables false
set_option linter.unusedSimpArgs false
namespace Go.Proofs.Ytfneiomdgcoakaa
open Go.RowKit Dice Wi
namespace Laws
open Rcv Spn
set_option maxHeartbeats 16000000 in
set_option maxRecDepth 100000 in
theorem receiverOrder_walk (a0 : Option Addr) (len0 cap0 : Nat) (z0 : List Int) (a1 : Int) (w : World) (w0 : Buf.IsRow .i64 w a0 len0 cap0 z0) (w1 : (Lit.int .u8 a1).wf = true) :
    Calls Try.prog 3 #[.slice a0 len0 cap0, .int .u8 a1] w fun e w' => e = .returned (.bool true) ∧ Below w.heap.size w w' := by
  have SN := Lib.hid Rcv.sane_any
  obtain ⟨b0, b1⟩ : 0 ≤ a1 ∧ a1 ≤ 255 := Ma.wf_u8 w1
  obtain ⟨i0, hi, hz0, hz1, hz2⟩ := info_parts infoJ
  by_cases hs : len0 ≤ 500
  · have hd : decide ((len0 : Int) ≤ 500) = true := by simp; omega
    go_enter Try.func3, Try.ntmps3
    go_upto_region 4 with (first | (go_at_call 9; refine (light_any _ _ _ _).mono ?_; rintro e w1 ⟨rfl, hw⟩; replace hw := hw.symm; subst hw; rw [hd]) | (go_at_call 11; refine (roll_any a0 len0 cap0 z0 _ w0 hs).mono ?_; rintro e w2 ⟨rfl, hdi⟩))
    have M0 : Hid (LM w w2 w.heap.size a0 len0 cap0 z0 w2 (.slice none 0 0) []) := Lib.hid ⟨Left.refl hdi, Buf.Own.nil _ _, hdi⟩
    clear hdi
    go_wp2_with fail
    refine (next_any 12 M0.out.L.di (by omega) (by omega)).mono ?_
    rintro e w3 ⟨⟨i, rfl, i1, i2⟩, hl⟩
    replace M0 := Lib.hid (M0.out.left hl)
    clear hl
    go_wp2_with fail
    go_loopw [6, 7] (fun v c wr => ∃ (kc : Int) (L : List Int), 0 ≤ kc ∧ (L.length : Int) + kc ≤ 11 ∧ c = .int .i64 kc ∧ Hid (∀ x ∈ L, 0 ≤ x ∧ x < 16) ∧ Hid (LM w w2 w.heap.size a0 len0 cap0 z0 wr v L)) (fun _ c _ => (intOf c).toNat)
    case atStart => exact ⟨i, [], by omega, by simp; omega, rfl, Lib.hid (fun x hx => by cases hx), M0⟩
    case round =>
      clear M0
      obtain ⟨kc, L, k0, k1, rfl, hin, M⟩ := hrel
      by_cases hk : 0 < kc
      · go_wp2_with fail
        refine (next_any 16 M.out.L.di (by omega) (by omega)).mono ?_
        rintro e w5 ⟨⟨t, rfl, t0, t1⟩, hl⟩
        replace M := Lib.hid (M.out.left hl)
        clear hl
        have own := Lib.hid M.out.own
        have hsz : w2.heap.size ≤ w5.heap.size := M.out.L.far.size
        have hB6 : Hid (Below w2.heap.size w5 w5) := Lib.hid (Below.refl _ _)
        have m1 : Hid ((iv L).length + 1 ≤ maxLen) := Lib.hid (by rw [iv_len]; unfold maxLen; omega)
        have m2 : Hid (((iv L).length + 1) * 8 ≤ 140737488355328) := Lib.hid (by rw [iv_len]; omega)
        go_wp2_with (at_builtin; refine Buf.wpList_append_one rfl _ _ 22 rfl 3 _ i0 (.int .i64 0) 8 Try.underlying22 hi hz0 hz1 hz2 rfl rfl own.out hB6.out hsz (.int .i64 t) rfl rfl m1.out m2.out ?_; intro v' w9 hown' hb' _)
        have M9 := Lib.hid (M.out.append hb' hown')
        clear hown' hb' M own
        go_roundw
        case rel => exact ⟨kc - 1, L ++ [t], by omega, by simp; omega, rfl, Lib.hid (fun x hx => by rcases List.mem_append.1 hx with h | h; exact hin.out x h; simp at h; omega), M9⟩
        case measure => simp [intOf]; omega
      · obtain rfl : kc = 0 := by omega
        clear hz0 hz1 hz2 hi
        obtain ⟨sa, sc, rfl, ro⟩ := ro_of M.out.own
        have RO := Lib.hid ro
        have BL := Lib.hid M.out.L.di.bel
        obtain ⟨n, hn⟩ : ∃ n, n = L.length := ⟨_, rfl⟩
        rw [← hn] at RO k1 ⊢
        replace hn := Lib.hid hn
        clear M ro
        obtain ⟨wL, hwL⟩ : ∃ wL, wL = wr := ⟨_, rfl⟩
        rw [← hwL] at RO BL ⊢
        clear hwL
        clear hk k0
        go_wp2_with fail
        refine (Rcv.new_any _).mono ?_
        rintro e w3 ⟨rfl, hb3⟩
        go_wp2_with fail
        refine (Rcv.new_any _).mono ?_
        rintro e w4 ⟨rfl, hb4⟩
        have B4 := Lib.hid (Buf.then_ hb3 hb4)
        clear hb3 hb4
        obtain ⟨b8, hb8⟩ : ∃ b8, b8 = w4.heap.size := ⟨_, rfl⟩
        obtain ⟨b9, hb9⟩ : ∃ b9, b9 = w4.heap.size + 1 := ⟨_, rfl⟩
        have P8 : ((w4.alloc (.cells #[.slice none 0 0, .slice none 0 0] 30)).alloc (.cells #[.slice none 0 0, .slice none 0 0] 30)).heap[b8]? = some (.cells #[.slice none 0 0, .slice none 0 0] 30 (0, 0)) := by rw [hb8]; exact hop (new_block _) (heap_alloc_new w4 _)
        have e1 : (w4.alloc (.cells #[.slice none 0 0, .slice none 0 0] 30)).heap.size = w4.heap.size + 1 := by simp
        have P9 : ((w4.alloc (.cells #[.slice none 0 0, .slice none 0 0] 30)).alloc (.cells #[.slice none 0 0, .slice none 0 0] 30)).heap[b9]? = some (.cells #[.slice none 0 0, .slice none 0 0] 30 (0, 0)) := by rw [hb9, ← e1]; exact heap_alloc_new _ _
        have z8 : wL.heap.size ≤ b8 := by rw [hb8]; exact B4.out.size
        have z9 : wL.heap.size ≤ b9 := by have := B4.out.size; omega
        have z89 : b8 ≠ b9 := by omega
        have B5 := Lib.hid (show Below wL.heap.size wL ((w4.alloc (.cells #[.slice none 0 0, .slice none 0 0] 30)).alloc (.cells #[.slice none 0 0, .slice none 0 0] 30)) from Buf.then_ (Buf.then_ B4.out (new_block _)) (new_block _))
        have O0 : OB wL b8 b9 (.slice none 0 0) (.slice none 0 0) (.slice none 0 0) (.slice none 0 0) (fun _ => false) (fun _ => false) (fun _ => false) (fun _ => false) ((w4.alloc (.cells #[.slice none 0 0, .slice none 0 0] 30)).alloc (.cells #[.slice none 0 0, .slice none 0 0] 30)) := ⟨B5.out, P8, P9, rc_new _, rc_new _, z8, z9, z89⟩
        have O1 := O0.put8 (rc_new _)
        have O2 := O1.put9 (rc_new _)
        have N8 := Lib.hid P8
        have N9 := Lib.hid O1.P9
        rw [hb8] at N8
        rw [hb8, hb9] at N9
        clear P8 P9 O0 O1
        replace hb8 := Lib.hid hb8
        replace hb9 := Lib.hid hb9
        replace O2 := Lib.hid O2
        go_upto_region 10 with (first | ((with_reducible refine Mid.str 30 (.tmp 8) (.tmp 37) w4.heap.size 30 #[.slice none 0 0, .slice none 0 0] #[.slice none 0 0, .slice none 0 0] N8.out ?_ ?_ ?_ ?_ ?_ ?_ ?_ ?_); (· rfl); (· rfl); (· first | rfl | simp [Act.eval]); (· first | rfl | simp [Act.eval]); (· kernel_rfl); (· rfl); (· simp [Value.oneCell'])) | ((with_reducible refine Mid.str 30 (.tmp 9) (.tmp 38) (w4.heap.size + 1) 30 #[.slice none 0 0, .slice none 0 0] #[.slice none 0 0, .slice none 0 0] N9.out ?_ ?_ ?_ ?_ ?_ ?_ ?_ ?_); (· rfl); (· rfl); (· first | rfl | simp [Act.eval]); (· first | rfl | simp [Act.eval]); (· kernel_rfl); (· rfl); (· simp [Value.oneCell'])) | fail)
        rw [← hb9.out, ← hb8.out]
        obtain ⟨wr, hwr⟩ : ∃ wr, wr = (((w4.alloc (.cells #[.slice none 0 0, .slice none 0 0] 30)).alloc (.cells #[.slice none 0 0, .slice none 0 0] 30)).setRow b8 #[.slice none 0 0, .slice none 0 0]).setRow b9 #[.slice none 0 0, .slice none 0 0] := ⟨_, rfl⟩
        rw [← hwr] at O2 ⊢
        clear hwr N8 N9 hb8 hb9 B4 B5 e1
        have O3 : Hid (OB wL b8 b9 (.slice none 0 0) (.slice none 0 0) (.slice none 0 0) (.slice none 0 0) (inl (L.take 0)) (fun _ => false) (inl (L.drop n)) (fun _ => false) wr) := Lib.hid (by
          have e1 : inl (L.take 0) = fun _ => false := funext fun x => by simp [inl]
          have e2 : inl (L.drop n) = fun _ => false := funext fun x => by simp [inl, hn.out]
          rw [e1, e2]; exact O2.out)
        clear O2
        go_wp2_with fail
        go_loopw [41] (fun s wr => ∃ (j j2 : Nat) (a8 : Option Addr) (n8 m8 : Nat) (c8 : Option Addr) (k8 l8 : Nat) (a9 : Option Addr) (n9 m9 : Nat) (c9 : Option Addr) (k9 l9 : Nat), j ≤ n ∧ j + j2 = n ∧ s = .int .i64 j ∧ Hid (OB wL b8 b9 (.slice a8 n8 m8) (.slice c8 k8 l8) (.slice a9 n9 m9) (.slice c9 k9 l9) (inl (L.take j)) (fun _ => false) (inl (L.drop j2)) (fun _ => false) wr)) (fun s _ => n - (intOf s).toNat)
        case atStart => exact ⟨0, n, _, _, _, _, _, _, _, _, _, _, _, _, Nat.zero_le _, by omega, rfl, O3⟩
        case round =>
          clear O3
          obtain ⟨j, j2, a8, n8, m8, c8, k8, l8, a9, n9, m9, c9, k9, l9, hj, hj2, rfl, O⟩ := hrel
          by_cases hlt : j < n
          · obtain ⟨q, hq⟩ : ∃ q, L[j]? = some q := ⟨L[j]'(by rw [← hn.out]; exact hlt), List.getElem?_eq_getElem _⟩
            obtain ⟨jj, rfl⟩ : ∃ jj, j2 = jj + 1 := ⟨j2 - 1, by omega⟩
            obtain ⟨q2, hq2⟩ : ∃ q2, L[jj]? = some q2 := ⟨L[jj]'(by rw [← hn.out]; omega), List.getElem?_eq_getElem _⟩
            obtain ⟨nsc, g, rfl, ce⟩ := RO.out _ _ hq
            obtain ⟨_, g', e, ce2⟩ := RO.out _ _ hq2
            cases e
            have CE := Lib.hid ce
            have CE2 := Lib.hid ce2
            obtain ⟨q0, q9⟩ := hin.out _ (List.mem_of_getElem? hq)
            obtain ⟨r0, r9⟩ := hin.out _ (List.mem_of_getElem? hq2)
            replace hq := Lib.hid hq
            replace hq2 := Lib.hid hq2
            have bj : (j : Int) < (n : Int) := by omega
            have bjj : (jj : Int) < (n : Int) := by omega
            have hjj := Lib.hid (show (n : Int) - 1 - (j : Int) = (jj : Int) by omega)
            clear ce ce2
            go_upto_region 13 with fail
            have hw0 : OB wL b8 b9 (.slice a8 n8 m8) (.slice c8 k8 l8) (.slice a9 n9 m9) (.slice c9 k9 l9) (inl (L.take j)) (fun _ => false) (inl (L.drop (jj + 1))) (fun _ => false) wr.drew := O.out.below (Below.refl _ _).drew
            clear O
            refine wp_region_noPanic ?_
            refine wp_region_any (by kernel_rfl) ?_
            refine Inv.wpAny_inv2 (fun k => k == 10) 8 9 [45, 46, 47, 48, 49, 50, 44, 51, 52, 53] (fun w' => OB wL b8 b9 (.slice a8 n8 m8) (.slice c8 k8 l8) (.slice a9 n9 m9) (.slice c9 k9 l9) (inl (L.take j)) (fun _ => false) (inl (L.drop (jj + 1))) (fun _ => false) w') (fun _ w1 w2 => Below w1.heap.size w1 w2) (fun k => ([fun v_ w_ => v_ = .agg #[.slice a8 n8 m8, .slice c8 k8 l8], fun v_ w_ => v_ = .slice (some ⟨g, 0, none⟩) n sc, fun v_ w_ => v_ = .int .i64 (j : Int), fun v_ w_ => v_ = .pointer (some ⟨g, j, none⟩), fun v_ w_ => v_ = .int .i64 q, fun v_ w_ => ∃ a n c a' n' c' bz, v_ = .tuple #[.agg #[.slice a n c, .slice a' n' c'], .bool bz, .int .i64 0] ∧ Rc w_ (.slice a n c) (.slice a' n' c') (inl (L.take (j + 1))) (fun _ => false), fun v_ w_ => ∃ a n c a' n' c' bz, v_ = .tuple #[.agg #[.slice a n c, .slice a' n' c'], .bool bz, .int .i64 0] ∧ Rc w_ (.slice a n c) (.slice a' n' c') (inl (L.take (j + 1))) (fun _ => false), fun v_ w_ => ∃ a n c a' n' c', v_ = .agg #[.slice a n c, .slice a' n' c'] ∧ Rc w_ (.slice a n c) (.slice a' n' c') (inl (L.take (j + 1))) (fun _ => false), fun v_ w_ => True, fun v_ w_ => True, fun v_ w_ => True] : List (Value → World → Prop)).getD k (fun _ _ => True)) _ (fun σ => by simp only [Inv.putAll, List.foldl_cons, List.foldl_nil, Act.put, List.setIfInBounds_toArray, List.set_cons_zero, List.set_cons_succ]; rfl) (by kernel_rfl) (by kernel_rfl) (by decide) ?_ hw0 ?_ ?_ (fun b1 b2 => cond b1 (cond b2 1 2) (cond b2 2 3)) (fun b1 b2 => #[true, true, true, true, true, true, true, true, b1, b2, false]) (by intro b1 b2; cases b1 <;> cases b2 <;> kernel_rfl) (by intro b1 b2; cases b1 <;> cases b2 <;> kernel_rfl) (by exact ⟨rfl, rfl⟩) ?_
            · intro j k v w1 w2 hjk hv hr
              rcases k with _ | k
              · exact hv
              rcases k with _ | k
              · exact hv
              rcases k with _ | k
              · exact hv
              rcases k with _ | k
              · exact hv
              rcases k with _ | k
              · exact hv
              rcases k with _ | k
              · exact by obtain ⟨a, n_, c, a', n', c', bz, e, h⟩ := hv; exact ⟨a, n_, c, a', n', c', bz, e, h.keep hr⟩
              rcases k with _ | k
              · exact by obtain ⟨a, n_, c, a', n', c', bz, e, h⟩ := hv; exact ⟨a, n_, c, a', n', c', bz, e, h.keep hr⟩
              rcases k with _ | k
              · exact by obtain ⟨a, n_, c, a', n', c', e, h⟩ := hv; exact ⟨a, n_, c, a', n', c', e, h.keep hr⟩
              rcases k with _ | k
              · exact hv
              rcases k with _ | k
              · exact hv
              rcases k with _ | k
              · exact hv
              · exact hv
            · intro k t hl hd
              rcases k with _ | k
              · exact absurd hl (by decide +kernel)
              rcases k with _ | k
              · exact absurd hl (by decide +kernel)
              rcases k with _ | k
              · exact absurd hl (by decide +kernel)
              rcases k with _ | k
              · exact absurd hl (by decide +kernel)
              rcases k with _ | k
              · exact absurd hl (by decide +kernel)
              rcases k with _ | k
              · exact absurd hl (by decide +kernel)
              rcases k with _ | k
              · exact absurd hl (by decide +kernel)
              rcases k with _ | k
              · exact absurd hl (by decide +kernel)
              rcases k with _ | k
              · exact absurd hl (by decide +kernel)
              rcases k with _ | k
              · exact absurd hl (by decide +kernel)
              rcases k with _ | k
              · exact absurd hl (by decide +kernel)
              · simp at hd
            · show Inv.Steps _ _ _ _ _ _ _ _ [0, 1, 2, 3, 4, 5, 6, 7, 8, 9]
              refine Inv.Steps.go (by decide) (by rfl) (fun σ wx hw hd K hK => ?_) ?_
              · simp only [List.getElem_toArray, List.getElem_cons_zero, List.getElem_cons_succ, Act.put, List.setIfInBounds_toArray, List.set_cons_zero, List.set_cons_succ] at hK ⊢
                refine wp_load_row 30 (.tmp 8) rfl b8 rfl 30 #[.slice a8 n8 m8, .slice c8 k8 l8] (0, 0) _ hw.P8 rfl rfl rfl ?_
                simp only [Act.put, List.setIfInBounds_toArray, List.set_cons_zero, List.set_cons_succ]
                exact hK.out _ _ hw (Below.refl _ _) (rfl)
              refine Inv.Steps.go (by decide) (by rfl) (fun σ wx hw hd K hK => ?_) ?_
              · simp only [List.getElem_toArray, List.getElem_cons_zero, List.getElem_cons_succ, Act.put, List.setIfInBounds_toArray, List.set_cons_zero, List.set_cons_succ] at hK ⊢
                go_simp
                exact hK.out _ _ hw (Below.refl _ _) (rfl)
              refine Inv.Steps.go (by decide) (by rfl) (fun σ wx hw hd K hK => ?_) ?_
              · simp only [List.getElem_toArray, List.getElem_cons_zero, List.getElem_cons_succ, Act.put, List.setIfInBounds_toArray, List.set_cons_zero, List.set_cons_succ] at hK ⊢
                go_simp
                exact hK.out _ _ hw (Below.refl _ _) (rfl)
              refine Inv.Steps.go (by decide) (by rfl) (fun σ wx hw hd K hK => ?_) ?_
              · obtain e46 : (σ 46) = .slice (some ⟨g, 0, none⟩) n sc := hd 1 (some 46) (by kernel_rfl) (by rfl)
                obtain e47 : (σ 47) = .int .i64 (j : Int) := hd 2 (some 47) (by kernel_rfl) (by rfl)
                simp only [List.getElem_toArray, List.getElem_cons_zero, List.getElem_cons_succ, Act.put, List.setIfInBounds_toArray, List.set_cons_zero, List.set_cons_succ, e46, e47] at hK ⊢
                go_simp
                exact hK.out _ _ hw (Below.refl _ _) (rfl)
              refine Inv.Steps.go (by decide) (by rfl) (fun σ wx hw hd K hK => ?_) ?_
              · obtain e48 : (σ 48) = .pointer (some ⟨g, j, none⟩) := hd 3 (some 48) (by kernel_rfl) (by rfl)
                simp only [List.getElem_toArray, List.getElem_cons_zero, List.getElem_cons_succ, Act.put, List.setIfInBounds_toArray, List.set_cons_zero, List.set_cons_succ, e48] at hK ⊢
                have zc := CE.out _ hw.B
                go_simp
                exact hK.out _ _ hw (Below.refl _ _) (rfl)
              refine Inv.Steps.go (by decide) (by rfl) (fun σ wx hw hd K hK => ?_) ?_
              · obtain e45 : (σ 45) = .agg #[.slice a8 n8 m8, .slice c8 k8 l8] := hd 0 (some 45) (by kernel_rfl) (by rfl)
                obtain e49 : (σ 49) = .int .i64 q := hd 4 (some 49) (by kernel_rfl) (by rfl)
                simp only [List.getElem_toArray, List.getElem_cons_zero, List.getElem_cons_succ, Act.put, List.setIfInBounds_toArray, List.set_cons_zero, List.set_cons_succ, e45, e49] at hK ⊢
                go_simp
                go_at_call 14
                refine (accept_any hw.Ra q (by omega) (by omega)).mono ?_
                rintro e w1 ⟨⟨vg, vl, rfl, R3⟩, hb⟩
                dsimp only
                replace R3 := Rc.ext (f' := (inl (L.take (j + 1)))) (g' := fun _ => false) R3 (fun x => inl_take hq.out x) (fun x => rfl)
                obtain ⟨xa, xn, xc, ya, yn, yc, rfl, rfl⟩ := Rc.form R3
                exact hK.out _ _ (hw.below hb) hb (⟨_, _, _, _, _, _, _, rfl, R3⟩)
              refine Inv.Steps.go (by decide) (by rfl) (fun σ wx hw hd K hK => ?_) ?_
              · obtain ⟨y1, m1, d1, y2, m2, d2, bz, e50, RX⟩ : ∃ a n c a' n' c' bz, (σ 50) = .tuple #[.agg #[.slice a n c, .slice a' n' c'], .bool bz, .int .i64 0] ∧ Rc wx (.slice a n c) (.slice a' n' c') (inl (L.take (j + 1))) (fun _ => false) := hd 5 (some 50) (by kernel_rfl) (by rfl)
                simp only [List.getElem_toArray, List.getElem_cons_zero, List.getElem_cons_succ, Act.put, List.setIfInBounds_toArray, List.set_cons_zero, List.set_cons_succ, e50] at hK ⊢
                go_simp
                exact hK.out _ _ hw (Below.refl _ _) (⟨_, _, _, _, _, _, _, rfl, RX⟩)
              refine Inv.Steps.go (by decide) (by rfl) (fun σ wx hw hd K hK => ?_) ?_
              · obtain ⟨y1, m1, d1, y2, m2, d2, bz, e44, RX⟩ : ∃ a n c a' n' c' bz, (σ 44) = .tuple #[.agg #[.slice a n c, .slice a' n' c'], .bool bz, .int .i64 0] ∧ Rc wx (.slice a n c) (.slice a' n' c') (inl (L.take (j + 1))) (fun _ => false) := hd 6 (some 44) (by kernel_rfl) (by rfl)
                simp only [List.getElem_toArray, List.getElem_cons_zero, List.getElem_cons_succ, Act.put, List.setIfInBounds_toArray, List.set_cons_zero, List.set_cons_succ, e44] at hK ⊢
                go_simp
                exact hK.out _ _ hw (Below.refl _ _) (⟨_, _, _, _, _, _, rfl, RX⟩)
              refine Inv.Steps.go (by decide) (by rfl) (fun σ wx hw hd K hK => ?_) ?_
              · obtain ⟨y1, m1, d1, y2, m2, d2, bz, e44, RX⟩ : ∃ a n c a' n' c' bz, (σ 44) = .tuple #[.agg #[.slice a n c, .slice a' n' c'], .bool bz, .int .i64 0] ∧ Rc wx (.slice a n c) (.slice a' n' c') (inl (L.take (j + 1))) (fun _ => false) := hd 6 (some 44) (by kernel_rfl) (by rfl)
                simp only [List.getElem_toArray, List.getElem_cons_zero, List.getElem_cons_succ, Act.put, List.setIfInBounds_toArray, List.set_cons_zero, List.set_cons_succ, e44] at hK ⊢
                go_simp
                exact hK.out _ _ hw (Below.refl _ _) (trivial)
              refine Inv.Steps.go (by decide) (by rfl) (fun σ wx hw hd K hK => ?_) ?_
              · obtain ⟨y1, m1, d1, y2, m2, d2, bz, e44, RX⟩ : ∃ a n c a' n' c' bz, (σ 44) = .tuple #[.agg #[.slice a n c, .slice a' n' c'], .bool bz, .int .i64 0] ∧ Rc wx (.slice a n c) (.slice a' n' c') (inl (L.take (j + 1))) (fun _ => false) := hd 6 (some 44) (by kernel_rfl) (by rfl)
                simp only [List.getElem_toArray, List.getElem_cons_zero, List.getElem_cons_succ, Act.put, List.setIfInBounds_toArray, List.set_cons_zero, List.set_cons_succ, e44] at hK ⊢
                go_simp
                exact hK.out _ _ hw (Below.refl _ _) (trivial)
              exact Inv.Steps.nil
            · intro b1 b2 σ wx hw hd
              cases b1 <;> cases b2
              · obtain ⟨y1, m1, d1, y2, m2, d2, e51, RX⟩ : ∃ a n c a' n' c', (σ 51) = .agg #[.slice a n c, .slice a' n' c'] ∧ Rc wx (.slice a n c) (.slice a' n' c') (inl (L.take (j + 1))) (fun _ => false) := hd 7 (some 51) (by kernel_rfl) (by decide) (by decide) (by rfl)
                have HT : ∃ a n c a' n' c' bz, (σ 44) = .tuple #[.agg #[.slice a n c, .slice a' n' c'], .bool bz, .int .i64 0] ∧ Rc wx (.slice a n c) (.slice a' n' c') (inl (L.take (j + 1))) (fun _ => false) := hd 6 (some 44) (by kernel_rfl) (by decide) (by decide) (by rfl)
                obtain ⟨z1, z2, z3, z4, z5, z6, bz, eT, _⟩ := HT
                simp only [e51, eT]
                refine Inv.take (i := 8) (v := .bool bz) (by decide) rfl (by kernel_rfl) (by kernel_rfl) (by kernel_rfl) (fun _ _ _ h => h) (by rfl) (fun w' => ?_) ?_
                · simp only [List.getElem_toArray, List.getElem_cons_zero, List.getElem_cons_succ]
                  go_simp
                try simp only [Act.put, List.setIfInBounds_toArray, List.set_cons_zero, List.set_cons_succ]
                refine Inv.take (i := 9) (v := .int .i64 0) (by decide) rfl (by kernel_rfl) (by kernel_rfl) (by kernel_rfl) (fun _ _ _ h => h) (by rfl) (fun w' => ?_) ?_
                · simp only [List.getElem_toArray, List.getElem_cons_zero, List.getElem_cons_succ]
                  go_simp
                try simp only [Act.put, List.setIfInBounds_toArray, List.set_cons_zero, List.set_cons_succ]
                obtain ⟨k0, k1_⟩ := Spn.c2 hw.P8
                have f0 := frozen_of_row wx b8 0 _ _ hw.P8
                have f1 := frozen_of_row wx b8 1 _ _ hw.P8
                refine Inv.one (i := 10) (by decide) (by kernel_rfl) (by rfl) (fun K hK => ?_)
                simp only [List.getElem_toArray, List.getElem_cons_zero, List.getElem_cons_succ, Act.put, List.setIfInBounds_toArray, List.set_cons_zero, List.set_cons_succ] at hK ⊢
                go_simp
                refine hK.out _ _ ?_
                clear hK K k0 k1_ f0 f1
                rw [← set_two hw.P8]
                refine Inv.done (by kernel_rfl) (NoPanic.normal ?_)
                have O9 := Lib.hid (hw.put8 RX)
                clear hd hw RX e51 eT
                generalize wx.setRow b8 #[.slice y1 m1 d1, .slice y2 m2 d2] = wT at *
                go_upto_region 14 with fail
                have hw0 : OB wL b8 b9 (.slice y1 m1 d1) (.slice y2 m2 d2) (.slice a9 n9 m9) (.slice c9 k9 l9) (inl (L.take (j + 1))) (fun _ => false) (inl (L.drop (jj + 1))) (fun _ => false) wT.drew := O9.out.below (Below.refl _ _).drew
                clear O9
                refine wp_region_noPanic ?_
                refine wp_region_any (by kernel_rfl) ?_
                refine Inv.wpAny_inv2 (fun k => k == 14) 12 13 [55, 56, 57, 58, 59, 60, 61, 62, 63, 64, 54, 65, 66, 67] (fun w' => OB wL b8 b9 (.slice y1 m1 d1) (.slice y2 m2 d2) (.slice a9 n9 m9) (.slice c9 k9 l9) (inl (L.take (j + 1))) (fun _ => false) (inl (L.drop (jj + 1))) (fun _ => false) w') (fun _ w1 w2 => Below w1.heap.size w1 w2) (fun k => ([fun v_ w_ => v_ = .agg #[.slice a9 n9 m9, .slice c9 k9 l9], fun v_ w_ => v_ = .slice (some ⟨g, 0, none⟩) n sc, fun v_ w_ => v_ = .slice (some ⟨g, 0, none⟩) n sc, fun v_ w_ => v_ = .int .i64 (n : Int), fun v_ w_ => v_ = .int .i64 ((n : Int) - 1), fun v_ w_ => v_ = .int .i64 (j : Int), fun v_ w_ => v_ = .int .i64 (jj : Int), fun v_ w_ => v_ = .pointer (some ⟨g, jj, none⟩), fun v_ w_ => v_ = .int .i64 q2, fun v_ w_ => ∃ a n c a' n' c' bz, v_ = .tuple #[.agg #[.slice a n c, .slice a' n' c'], .bool bz, .int .i64 0] ∧ Rc w_ (.slice a n c) (.slice a' n' c') (inl (L.drop jj)) (fun _ => false), fun v_ w_ => ∃ a n c a' n' c' bz, v_ = .tuple #[.agg #[.slice a n c, .slice a' n' c'], .bool bz, .int .i64 0] ∧ Rc w_ (.slice a n c) (.slice a' n' c') (inl (L.drop jj)) (fun _ => false), fun v_ w_ => ∃ a n c a' n' c', v_ = .agg #[.slice a n c, .slice a' n' c'] ∧ Rc w_ (.slice a n c) (.slice a' n' c') (inl (L.drop jj)) (fun _ => false), fun v_ w_ => True, fun v_ w_ => True, fun v_ w_ => True] : List (Value → World → Prop)).getD k (fun _ _ => True)) _ (fun σ => by simp only [Inv.putAll, List.foldl_cons, List.foldl_nil, Act.put, List.setIfInBounds_toArray, List.set_cons_zero, List.set_cons_succ]; rfl) (by kernel_rfl) (by kernel_rfl) (by decide) ?_ hw0 ?_ ?_ (fun b1 b2 => cond b1 (cond b2 1 2) (cond b2 2 3)) (fun b1 b2 => #[true, true, true, true, true, true, true, true, true, true, true, true, b1, b2, false]) (by intro b1 b2; cases b1 <;> cases b2 <;> kernel_rfl) (by intro b1 b2; cases b1 <;> cases b2 <;> kernel_rfl) (by exact ⟨rfl, rfl⟩) ?_
                · intro j k v w1 w2 hjk hv hr
                  rcases k with _ | k
                  · exact hv
                  rcases k with _ | k
                  · exact hv
                  rcases k with _ | k
                  · exact hv
                  rcases k with _ | k
                  · exact hv
                  rcases k with _ | k
                  · exact hv
                  rcases k with _ | k
                  · exact hv
                  rcases k with _ | k
                  · exact hv
                  rcases k with _ | k
                  · exact hv
                  rcases k with _ | k
                  · exact hv
                  rcases k with _ | k
                  · exact by obtain ⟨a, n_, c, a', n', c', bz, e, h⟩ := hv; exact ⟨a, n_, c, a', n', c', bz, e, h.keep hr⟩
                  rcases k with _ | k
                  · exact by obtain ⟨a, n_, c, a', n', c', bz, e, h⟩ := hv; exact ⟨a, n_, c, a', n', c', bz, e, h.keep hr⟩
                  rcases k with _ | k
                  · exact by obtain ⟨a, n_, c, a', n', c', e, h⟩ := hv; exact ⟨a, n_, c, a', n', c', e, h.keep hr⟩
                  rcases k with _ | k
                  · exact hv
                  rcases k with _ | k
                  · exact hv
                  rcases k with _ | k
                  · exact hv
                  · exact hv
                · intro k t hl hd
                  rcases k with _ | k
                  · exact absurd hl (by decide +kernel)
                  rcases k with _ | k
                  · exact absurd hl (by decide +kernel)
                  rcases k with _ | k
                  · exact absurd hl (by decide +kernel)
                  rcases k with _ | k
                  · exact absurd hl (by decide +kernel)
                  rcases k with _ | k
                  · exact absurd hl (by decide +kernel)
                  rcases k with _ | k
                  · exact absurd hl (by decide +kernel)
                  rcases k with _ | k
                  · exact absurd hl (by decide +kernel)
                  rcases k with _ | k
                  · exact absurd hl (by decide +kernel)
                  rcases k with _ | k
                  · exact absurd hl (by decide +kernel)
                  rcases k with _ | k
                  · exact absurd hl (by decide +kernel)
                  rcases k with _ | k
                  · exact absurd hl (by decide +kernel)
                  rcases k with _ | k
                  · exact absurd hl (by decide +kernel)
                  rcases k with _ | k
                  · exact absurd hl (by decide +kernel)
                  rcases k with _ | k
                  · exact absurd hl (by decide +kernel)
                  rcases k with _ | k
                  · exact absurd hl (by decide +kernel)
                  · simp at hd
                · show Inv.Steps _ _ _ _ _ _ _ _ [0, 1, 2, 3, 4, 5, 6, 7, 8, 9, 10, 11, 12, 13]
                  refine Inv.Steps.go (by decide) (by rfl) (fun σ wx hw hd K hK => ?_) ?_
                  · simp only [List.getElem_toArray, List.getElem_cons_zero, List.getElem_cons_succ, Act.put, List.setIfInBounds_toArray, List.set_cons_zero, List.set_cons_succ] at hK ⊢
                    refine wp_load_row 30 (.tmp 9) rfl b9 rfl 30 #[.slice a9 n9 m9, .slice c9 k9 l9] (0, 0) _ hw.P9 rfl rfl rfl ?_
                    simp only [Act.put, List.setIfInBounds_toArray, List.set_cons_zero, List.set_cons_succ]
                    exact hK.out _ _ hw (Below.refl _ _) (rfl)
                  refine Inv.Steps.go (by decide) (by rfl) (fun σ wx hw hd K hK => ?_) ?_
                  · simp only [List.getElem_toArray, List.getElem_cons_zero, List.getElem_cons_succ, Act.put, List.setIfInBounds_toArray, List.set_cons_zero, List.set_cons_succ] at hK ⊢
                    go_simp
                    exact hK.out _ _ hw (Below.refl _ _) (rfl)
                  refine Inv.Steps.go (by decide) (by rfl) (fun σ wx hw hd K hK => ?_) ?_
                  · simp only [List.getElem_toArray, List.getElem_cons_zero, List.getElem_cons_succ, Act.put, List.setIfInBounds_toArray, List.set_cons_zero, List.set_cons_succ] at hK ⊢
                    go_simp
                    exact hK.out _ _ hw (Below.refl _ _) (rfl)
                  refine Inv.Steps.go (by decide) (by rfl) (fun σ wx hw hd K hK => ?_) ?_
                  · obtain e57 : (σ 57) = .slice (some ⟨g, 0, none⟩) n sc := hd 2 (some 57) (by kernel_rfl) (by rfl)
                    simp only [List.getElem_toArray, List.getElem_cons_zero, List.getElem_cons_succ, Act.put, List.setIfInBounds_toArray, List.set_cons_zero, List.set_cons_succ, e57] at hK ⊢
                    go_simp
                    exact hK.out _ _ hw (Below.refl _ _) (rfl)
                  refine Inv.Steps.go (by decide) (by rfl) (fun σ wx hw hd K hK => ?_) ?_
                  · obtain e58 : (σ 58) = .int .i64 (n : Int) := hd 3 (some 58) (by kernel_rfl) (by rfl)
                    simp only [List.getElem_toArray, List.getElem_cons_zero, List.getElem_cons_succ, Act.put, List.setIfInBounds_toArray, List.set_cons_zero, List.set_cons_succ, e58] at hK ⊢
                    go_simp
                    exact hK.out _ _ hw (Below.refl _ _) (congrArg (Value.int .i64) (IntWalk.i64_in _ (by omega)))
                  refine Inv.Steps.go (by decide) (by rfl) (fun σ wx hw hd K hK => ?_) ?_
                  · simp only [List.getElem_toArray, List.getElem_cons_zero, List.getElem_cons_succ, Act.put, List.setIfInBounds_toArray, List.set_cons_zero, List.set_cons_succ] at hK ⊢
                    go_simp
                    exact hK.out _ _ hw (Below.refl _ _) (rfl)
                  refine Inv.Steps.go (by decide) (by rfl) (fun σ wx hw hd K hK => ?_) ?_
                  · obtain e59 : (σ 59) = .int .i64 ((n : Int) - 1) := hd 4 (some 59) (by kernel_rfl) (by rfl)
                    obtain e60 : (σ 60) = .int .i64 (j : Int) := hd 5 (some 60) (by kernel_rfl) (by rfl)
                    simp only [List.getElem_toArray, List.getElem_cons_zero, List.getElem_cons_succ, Act.put, List.setIfInBounds_toArray, List.set_cons_zero, List.set_cons_succ, e59, e60] at hK ⊢
                    go_simp
                    try simp only [hjj.out] at hK ⊢
                    exact hK.out _ _ hw (Below.refl _ _) (congrArg (Value.int .i64) (IntWalk.i64_in _ (by omega)))
                  refine Inv.Steps.go (by decide) (by rfl) (fun σ wx hw hd K hK => ?_) ?_
                  · obtain e56 : (σ 56) = .slice (some ⟨g, 0, none⟩) n sc := hd 1 (some 56) (by kernel_rfl) (by rfl)
                    obtain e61 : (σ 61) = .int .i64 (jj : Int) := hd 6 (some 61) (by kernel_rfl) (by rfl)
                    simp only [List.getElem_toArray, List.getElem_cons_zero, List.getElem_cons_succ, Act.put, List.setIfInBounds_toArray, List.set_cons_zero, List.set_cons_succ, e56, e61] at hK ⊢
                    go_simp
                    exact hK.out _ _ hw (Below.refl _ _) (rfl)
                  refine Inv.Steps.go (by decide) (by rfl) (fun σ wx hw hd K hK => ?_) ?_
                  · obtain e62 : (σ 62) = .pointer (some ⟨g, jj, none⟩) := hd 7 (some 62) (by kernel_rfl) (by rfl)
                    simp only [List.getElem_toArray, List.getElem_cons_zero, List.getElem_cons_succ, Act.put, List.setIfInBounds_toArray, List.set_cons_zero, List.set_cons_succ, e62] at hK ⊢
                    have zc := CE2.out _ hw.B
                    go_simp
                    exact hK.out _ _ hw (Below.refl _ _) (rfl)
                  refine Inv.Steps.go (by decide) (by rfl) (fun σ wx hw hd K hK => ?_) ?_
                  · obtain e55 : (σ 55) = .agg #[.slice a9 n9 m9, .slice c9 k9 l9] := hd 0 (some 55) (by kernel_rfl) (by rfl)
                    obtain e63 : (σ 63) = .int .i64 q2 := hd 8 (some 63) (by kernel_rfl) (by rfl)
                    simp only [List.getElem_toArray, List.getElem_cons_zero, List.getElem_cons_succ, Act.put, List.setIfInBounds_toArray, List.set_cons_zero, List.set_cons_succ, e55, e63] at hK ⊢
                    go_simp
                    go_at_call 14
                    refine (accept_any hw.Rb q2 (by omega) (by omega)).mono ?_
                    rintro e w1 ⟨⟨vg, vl, rfl, R3⟩, hb⟩
                    dsimp only
                    replace R3 := Rc.ext (f' := (inl (L.drop jj))) (g' := fun _ => false) R3 (fun x => inl_drop hq2.out x) (fun x => rfl)
                    obtain ⟨xa, xn, xc, ya, yn, yc, rfl, rfl⟩ := Rc.form R3
                    exact hK.out _ _ (hw.below hb) hb (⟨_, _, _, _, _, _, _, rfl, R3⟩)
                  refine Inv.Steps.go (by decide) (by rfl) (fun σ wx hw hd K hK => ?_) ?_
                  · obtain ⟨y1, m1, d1, y2, m2, d2, bz, e64, RX⟩ : ∃ a n c a' n' c' bz, (σ 64) = .tuple #[.agg #[.slice a n c, .slice a' n' c'], .bool bz, .int .i64 0] ∧ Rc wx (.slice a n c) (.slice a' n' c') (inl (L.drop jj)) (fun _ => false) := hd 9 (some 64) (by kernel_rfl) (by rfl)
                    simp only [List.getElem_toArray, List.getElem_cons_zero, List.getElem_cons_succ, Act.put, List.setIfInBounds_toArray, List.set_cons_zero, List.set_cons_succ, e64] at hK ⊢
                    go_simp
                    exact hK.out _ _ hw (Below.refl _ _) (⟨_, _, _, _, _, _, _, rfl, RX⟩)
                  refine Inv.Steps.go (by decide) (by rfl) (fun σ wx hw hd K hK => ?_) ?_
                  · obtain ⟨y1, m1, d1, y2, m2, d2, bz, e54, RX⟩ : ∃ a n c a' n' c' bz, (σ 54) = .tuple #[.agg #[.slice a n c, .slice a' n' c'], .bool bz, .int .i64 0] ∧ Rc wx (.slice a n c) (.slice a' n' c') (inl (L.drop jj)) (fun _ => false) := hd 10 (some 54) (by kernel_rfl) (by rfl)
                    simp only [List.getElem_toArray, List.getElem_cons_zero, List.getElem_cons_succ, Act.put, List.setIfInBounds_toArray, List.set_cons_zero, List.set_cons_succ, e54] at hK ⊢
                    go_simp
                    exact hK.out _ _ hw (Below.refl _ _) (⟨_, _, _, _, _, _, rfl, RX⟩)
                  refine Inv.Steps.go (by decide) (by rfl) (fun σ wx hw hd K hK => ?_) ?_
                  · obtain ⟨y1, m1, d1, y2, m2, d2, bz, e54, RX⟩ : ∃ a n c a' n' c' bz, (σ 54) = .tuple #[.agg #[.slice a n c, .slice a' n' c'], .bool bz, .int .i64 0] ∧ Rc wx (.slice a n c) (.slice a' n' c') (inl (L.drop jj)) (fun _ => false) := hd 10 (some 54) (by kernel_rfl) (by rfl)
                    simp only [List.getElem_toArray, List.getElem_cons_zero, List.getElem_cons_succ, Act.put, List.setIfInBounds_toArray, List.set_cons_zero, List.set_cons_succ, e54] at hK ⊢
                    go_simp
                    exact hK.out _ _ hw (Below.refl _ _) (trivial)
                  refine Inv.Steps.go (by decide) (by rfl) (fun σ wx hw hd K hK => ?_) ?_
                  · obtain ⟨y1, m1, d1, y2, m2, d2, bz, e54, RX⟩ : ∃ a n c a' n' c' bz, (σ 54) = .tuple #[.agg #[.slice a n c, .slice a' n' c'], .bool bz, .int .i64 0] ∧ Rc wx (.slice a n c) (.slice a' n' c') (inl (L.drop jj)) (fun _ => false) := hd 10 (some 54) (by kernel_rfl) (by rfl)
                    simp only [List.getElem_toArray, List.getElem_cons_zero, List.getElem_cons_succ, Act.put, List.setIfInBounds_toArray, List.set_cons_zero, List.set_cons_succ, e54] at hK ⊢
                    go_simp
                    exact hK.out _ _ hw (Below.refl _ _) (trivial)
                  exact Inv.Steps.nil
                · intro b1 b2 σ wx hw hd
                  cases b1 <;> cases b2
                  · obtain ⟨y1, m1, d1, y2, m2, d2, e65, RX⟩ : ∃ a n c a' n' c', (σ 65) = .agg #[.slice a n c, .slice a' n' c'] ∧ Rc wx (.slice a n c) (.slice a' n' c') (inl (L.drop jj)) (fun _ => false) := hd 11 (some 65) (by kernel_rfl) (by decide) (by decide) (by rfl)
                    have HT : ∃ a n c a' n' c' bz, (σ 54) = .tuple #[.agg #[.slice a n c, .slice a' n' c'], .bool bz, .int .i64 0] ∧ Rc wx (.slice a n c) (.slice a' n' c') (inl (L.drop jj)) (fun _ => false) := hd 10 (some 54) (by kernel_rfl) (by decide) (by decide) (by rfl)
                    obtain ⟨z1, z2, z3, z4, z5, z6, bz, eT, _⟩ := HT
                    simp only [e65, eT]
                    refine Inv.take (i := 12) (v := .bool bz) (by decide) rfl (by kernel_rfl) (by kernel_rfl) (by kernel_rfl) (fun _ _ _ h => h) (by rfl) (fun w' => ?_) ?_
                    · simp only [List.getElem_toArray, List.getElem_cons_zero, List.getElem_cons_succ]
                      go_simp
                    try simp only [Act.put, List.setIfInBounds_toArray, List.set_cons_zero, List.set_cons_succ]
                    refine Inv.take (i := 13) (v := .int .i64 0) (by decide) rfl (by kernel_rfl) (by kernel_rfl) (by kernel_rfl) (fun _ _ _ h => h) (by rfl) (fun w' => ?_) ?_
                    · simp only [List.getElem_toArray, List.getElem_cons_zero, List.getElem_cons_succ]
                      go_simp
                    try simp only [Act.put, List.setIfInBounds_toArray, List.set_cons_zero, List.set_cons_succ]
                    obtain ⟨k0, k1_⟩ := Spn.c2 hw.P9
                    have f0 := frozen_of_row wx b9 0 _ _ hw.P9
                    have f1 := frozen_of_row wx b9 1 _ _ hw.P9
                    refine Inv.one (i := 14) (by decide) (by kernel_rfl) (by rfl) (fun K hK => ?_)
                    simp only [List.getElem_toArray, List.getElem_cons_zero, List.getElem_cons_succ, Act.put, List.setIfInBounds_toArray, List.set_cons_zero, List.set_cons_succ] at hK ⊢
                    go_simp
                    refine hK.out _ _ ?_
                    clear hK K k0 k1_ f0 f1
                    rw [← set_two hw.P9]
                    refine Inv.done (by kernel_rfl) (NoPanic.normal ?_)
                    have O9 := Lib.hid (hw.put9 RX)
                    clear hd hw RX e65 eT
                    generalize wx.setRow b9 #[.slice y1 m1 d1, .slice y2 m2 d2] = wT at *
                    go_wp2_with fail
                    go_roundw
                    case rel => exact ⟨j + 1, jj, _, _, _, _, _, _, _, _, _, _, _, _, by omega, by omega, by go_num, O9⟩
                    case measure => simp [intOf]; omega
                  · obtain ⟨y1, m1, d1, y2, m2, d2, e65, RX⟩ : ∃ a n c a' n' c', (σ 65) = .agg #[.slice a n c, .slice a' n' c'] ∧ Rc wx (.slice a n c) (.slice a' n' c') (inl (L.drop jj)) (fun _ => false) := hd 11 (some 65) (by kernel_rfl) (by decide) (by decide) (by rfl)
                    have HT : ∃ a n c a' n' c' bz, (σ 54) = .tuple #[.agg #[.slice a n c, .slice a' n' c'], .bool bz, .int .i64 0] ∧ Rc wx (.slice a n c) (.slice a' n' c') (inl (L.drop jj)) (fun _ => false) := hd 10 (some 54) (by kernel_rfl) (by decide) (by decide) (by rfl)
                    obtain ⟨z1, z2, z3, z4, z5, z6, bz, eT, _⟩ := HT
                    simp only [e65, eT]
                    refine Inv.take (i := 12) (v := .bool bz) (by decide) rfl (by kernel_rfl) (by kernel_rfl) (by kernel_rfl) (fun _ _ _ h => h) (by rfl) (fun w' => ?_) ?_
                    · simp only [List.getElem_toArray, List.getElem_cons_zero, List.getElem_cons_succ]
                      go_simp
                    try simp only [Act.put, List.setIfInBounds_toArray, List.set_cons_zero, List.set_cons_succ]
                    obtain ⟨k0, k1_⟩ := Spn.c2 hw.P9
                    have f0 := frozen_of_row wx b9 0 _ _ hw.P9
                    have f1 := frozen_of_row wx b9 1 _ _ hw.P9
                    refine Inv.one (i := 14) (by decide) (by kernel_rfl) (by rfl) (fun K hK => ?_)
                    simp only [List.getElem_toArray, List.getElem_cons_zero, List.getElem_cons_succ, Act.put, List.setIfInBounds_toArray, List.set_cons_zero, List.set_cons_succ] at hK ⊢
                    go_simp
                    refine hK.out _ _ ?_
                    clear hK K k0 k1_ f0 f1
                    rw [← set_two hw.P9]
                    refine Inv.done (by kernel_rfl) (NoPanic.normal ?_)
                    have O9 := Lib.hid (hw.put9 RX)
                    clear hd hw RX e65 eT
                    generalize wx.setRow b9 #[.slice y1 m1 d1, .slice y2 m2 d2] = wT at *
                    go_wp2_with fail
                    go_roundw
                    case rel => exact ⟨j + 1, jj, _, _, _, _, _, _, _, _, _, _, _, _, by omega, by omega, by go_num, O9⟩
                    case measure => simp [intOf]; omega
                  · obtain ⟨y1, m1, d1, y2, m2, d2, e65, RX⟩ : ∃ a n c a' n' c', (σ 65) = .agg #[.slice a n c, .slice a' n' c'] ∧ Rc wx (.slice a n c) (.slice a' n' c') (inl (L.drop jj)) (fun _ => false) := hd 11 (some 65) (by kernel_rfl) (by decide) (by decide) (by rfl)
                    have HT : ∃ a n c a' n' c' bz, (σ 54) = .tuple #[.agg #[.slice a n c, .slice a' n' c'], .bool bz, .int .i64 0] ∧ Rc wx (.slice a n c) (.slice a' n' c') (inl (L.drop jj)) (fun _ => false) := hd 10 (some 54) (by kernel_rfl) (by decide) (by decide) (by rfl)
                    obtain ⟨z1, z2, z3, z4, z5, z6, bz, eT, _⟩ := HT
                    simp only [e65, eT]
                    refine Inv.take (i := 13) (v := .int .i64 0) (by decide) rfl (by kernel_rfl) (by kernel_rfl) (by kernel_rfl) (fun _ _ _ h => h) (by rfl) (fun w' => ?_) ?_
                    · simp only [List.getElem_toArray, List.getElem_cons_zero, List.getElem_cons_succ]
                      go_simp
                    try simp only [Act.put, List.setIfInBounds_toArray, List.set_cons_zero, List.set_cons_succ]
                    obtain ⟨k0, k1_⟩ := Spn.c2 hw.P9
                    have f0 := frozen_of_row wx b9 0 _ _ hw.P9
                    have f1 := frozen_of_row wx b9 1 _ _ hw.P9
                    refine Inv.one (i := 14) (by decide) (by kernel_rfl) (by rfl) (fun K hK => ?_)
                    simp only [List.getElem_toArray, List.getElem_cons_zero, List.getElem_cons_succ, Act.put, List.setIfInBounds_toArray, List.set_cons_zero, List.set_cons_succ] at hK ⊢
                    go_simp
                    refine hK.out _ _ ?_
                    clear hK K k0 k1_ f0 f1
                    rw [← set_two hw.P9]
                    refine Inv.done (by kernel_rfl) (NoPanic.normal ?_)
                    have O9 := Lib.hid (hw.put9 RX)
                    clear hd hw RX e65 eT
                    generalize wx.setRow b9 #[.slice y1 m1 d1, .slice y2 m2 d2] = wT at *
                    go_wp2_with fail
                    go_roundw
                    case rel => exact ⟨j + 1, jj, _, _, _, _, _, _, _, _, _, _, _, _, by omega, by omega, by go_num, O9⟩
                    case measure => simp [intOf]; omega
                  · obtain ⟨y1, m1, d1, y2, m2, d2, e65, RX⟩ : ∃ a n c a' n' c', (σ 65) = .agg #[.slice a n c, .slice a' n' c'] ∧ Rc wx (.slice a n c) (.slice a' n' c') (inl (L.drop jj)) (fun _ => false) := hd 11 (some 65) (by kernel_rfl) (by decide) (by decide) (by rfl)
                    have HT : ∃ a n c a' n' c' bz, (σ 54) = .tuple #[.agg #[.slice a n c, .slice a' n' c'], .bool bz, .int .i64 0] ∧ Rc wx (.slice a n c) (.slice a' n' c') (inl (L.drop jj)) (fun _ => false) := hd 10 (some 54) (by kernel_rfl) (by decide) (by decide) (by rfl)
                    obtain ⟨z1, z2, z3, z4, z5, z6, bz, eT, _⟩ := HT
                    simp only [e65, eT]
                    obtain ⟨k0, k1_⟩ := Spn.c2 hw.P9
                    have f0 := frozen_of_row wx b9 0 _ _ hw.P9
                    have f1 := frozen_of_row wx b9 1 _ _ hw.P9
                    refine Inv.one (i := 14) (by decide) (by kernel_rfl) (by rfl) (fun K hK => ?_)
                    simp only [List.getElem_toArray, List.getElem_cons_zero, List.getElem_cons_succ, Act.put, List.setIfInBounds_toArray, List.set_cons_zero, List.set_cons_succ] at hK ⊢
                    go_simp
                    refine hK.out _ _ ?_
                    clear hK K k0 k1_ f0 f1
                    rw [← set_two hw.P9]
                    refine Inv.done (by kernel_rfl) (NoPanic.normal ?_)
                    have O9 := Lib.hid (hw.put9 RX)
                    clear hd hw RX e65 eT
                    generalize wx.setRow b9 #[.slice y1 m1 d1, .slice y2 m2 d2] = wT at *
                    go_wp2_with fail
                    go_roundw
                    case rel => exact ⟨j + 1, jj, _, _, _, _, _, _, _, _, _, _, _, _, by omega, by omega, by go_num, O9⟩
                    case measure => simp [intOf]; omega
              · obtain ⟨y1, m1, d1, y2, m2, d2, e51, RX⟩ : ∃ a n c a' n' c', (σ 51) = .agg #[.slice a n c, .slice a' n' c'] ∧ Rc wx (.slice a n c) (.slice a' n' c') (inl (L.take (j + 1))) (fun _ => false) := hd 7 (some 51) (by kernel_rfl) (by decide) (by decide) (by rfl)
                have HT : ∃ a n c a' n' c' bz, (σ 44) = .tuple #[.agg #[.slice a n c, .slice a' n' c'], .bool bz, .int .i64 0] ∧ Rc wx (.slice a n c) (.slice a' n' c') (inl (L.take (j + 1))) (fun _ => false) := hd 6 (some 44) (by kernel_rfl) (by decide) (by decide) (by rfl)
                obtain ⟨z1, z2, z3, z4, z5, z6, bz, eT, _⟩ := HT
                simp only [e51, eT]
                refine Inv.take (i := 8) (v := .bool bz) (by decide) rfl (by kernel_rfl) (by kernel_rfl) (by kernel_rfl) (fun _ _ _ h => h) (by rfl) (fun w' => ?_) ?_
                · simp only [List.getElem_toArray, List.getElem_cons_zero, List.getElem_cons_succ]
                  go_simp
                try simp only [Act.put, List.setIfInBounds_toArray, List.set_cons_zero, List.set_cons_succ]
                obtain ⟨k0, k1_⟩ := Spn.c2 hw.P8
                have f0 := frozen_of_row wx b8 0 _ _ hw.P8
                have f1 := frozen_of_row wx b8 1 _ _ hw.P8
                refine Inv.one (i := 10) (by decide) (by kernel_rfl) (by rfl) (fun K hK => ?_)
                simp only [List.getElem_toArray, List.getElem_cons_zero, List.getElem_cons_succ, Act.put, List.setIfInBounds_toArray, List.set_cons_zero, List.set_cons_succ] at hK ⊢
                go_simp
                refine hK.out _ _ ?_
                clear hK K k0 k1_ f0 f1
                rw [← set_two hw.P8]
                refine Inv.done (by kernel_rfl) (NoPanic.normal ?_)
                have O9 := Lib.hid (hw.put8 RX)
                clear hd hw RX e51 eT
                generalize wx.setRow b8 #[.slice y1 m1 d1, .slice y2 m2 d2] = wT at *
                go_upto_region 14 with fail
                have hw0 : OB wL b8 b9 (.slice y1 m1 d1) (.slice y2 m2 d2) (.slice a9 n9 m9) (.slice c9 k9 l9) (inl (L.take (j + 1))) (fun _ => false) (inl (L.drop (jj + 1))) (fun _ => false) wT.drew := O9.out.below (Below.refl _ _).drew
                clear O9
                refine wp_region_noPanic ?_
                refine wp_region_any (by kernel_rfl) ?_
                refine Inv.wpAny_inv2 (fun k => k == 14) 12 13 [55, 56, 57, 58, 59, 60, 61, 62, 63, 64, 54, 65, 66, 67] (fun w' => OB wL b8 b9 (.slice y1 m1 d1) (.slice y2 m2 d2) (.slice a9 n9 m9) (.slice c9 k9 l9) (inl (L.take (j + 1))) (fun _ => false) (inl (L.drop (jj + 1))) (fun _ => false) w') (fun _ w1 w2 => Below w1.heap.size w1 w2) (fun k => ([fun v_ w_ => v_ = .agg #[.slice a9 n9 m9, .slice c9 k9 l9], fun v_ w_ => v_ = .slice (some ⟨g, 0, none⟩) n sc, fun v_ w_ => v_ = .slice (some ⟨g, 0, none⟩) n sc, fun v_ w_ => v_ = .int .i64 (n : Int), fun v_ w_ => v_ = .int .i64 ((n : Int) - 1), fun v_ w_ => v_ = .int .i64 (j : Int), fun v_ w_ => v_ = .int .i64 (jj : Int), fun v_ w_ => v_ = .pointer (some ⟨g, jj, none⟩), fun v_ w_ => v_ = .int .i64 q2, fun v_ w_ => ∃ a n c a' n' c' bz, v_ = .tuple #[.agg #[.slice a n c, .slice a' n' c'], .bool bz, .int .i64 0] ∧ Rc w_ (.slice a n c) (.slice a' n' c') (inl (L.drop jj)) (fun _ => false), fun v_ w_ => ∃ a n c a' n' c' bz, v_ = .tuple #[.agg #[.slice a n c, .slice a' n' c'], .bool bz, .int .i64 0] ∧ Rc w_ (.slice a n c) (.slice a' n' c') (inl (L.drop jj)) (fun _ => false), fun v_ w_ => ∃ a n c a' n' c', v_ = .agg #[.slice a n c, .slice a' n' c'] ∧ Rc w_ (.slice a n c) (.slice a' n' c') (inl (L.drop jj)) (fun _ => false), fun v_ w_ => True, fun v_ w_ => True, fun v_ w_ => True] : List (Value → World → Prop)).getD k (fun _ _ => True)) _ (fun σ => by simp only [Inv.putAll, List.foldl_cons, List.foldl_nil, Act.put, List.setIfInBounds_toArray, List.set_cons_zero, List.set_cons_succ]; rfl) (by kernel_rfl) (by kernel_rfl) (by decide) ?_ hw0 ?_ ?_ (fun b1 b2 => cond b1 (cond b2 1 2) (cond b2 2 3)) (fun b1 b2 => #[true, true, true, true, true, true, true, true, true, true, true, true, b1, b2, false]) (by intro b1 b2; cases b1 <;> cases b2 <;> kernel_rfl) (by intro b1 b2; cases b1 <;> cases b2 <;> kernel_rfl) (by exact ⟨rfl, rfl⟩) ?_
                · intro j k v w1 w2 hjk hv hr
                  rcases k with _ | k
                  · exact hv
                  rcases k with _ | k
                  · exact hv
                  rcases k with _ | k
                  · exact hv
                  rcases k with _ | k
                  · exact hv
                  rcases k with _ | k
                  · exact hv
                  rcases k with _ | k
                  · exact hv
                  rcases k with _ | k
                  · exact hv
                  rcases k with _ | k
                  · exact hv
                  rcases k with _ | k
                  · exact hv
                  rcases k with _ | k
                  · exact by obtain ⟨a, n_, c, a', n', c', bz, e, h⟩ := hv; exact ⟨a, n_, c, a', n', c', bz, e, h.keep hr⟩
                  rcases k with _ | k
                  · exact by obtain ⟨a, n_, c, a', n', c', bz, e, h⟩ := hv; exact ⟨a, n_, c, a', n', c', bz, e, h.keep hr⟩
                  rcases k with _ | k
                  · exact by obtain ⟨a, n_, c, a', n', c', e, h⟩ := hv; exact ⟨a, n_, c, a', n', c', e, h.keep hr⟩
                  rcases k with _ | k
                  · exact hv
                  rcases k with _ | k
                  · exact hv
                  rcases k with _ | k
                  · exact hv
                  · exact hv
                · intro k t hl hd
                  rcases k with _ | k
                  · exact absurd hl (by decide +kernel)
                  rcases k with _ | k
                  · exact absurd hl (by decide +kernel)
                  rcases k with _ | k
                  · exact absurd hl (by decide +kernel)
                  rcases k with _ | k
                  · exact absurd hl (by decide +kernel)
                  rcases k with _ | k
                  · exact absurd hl (by decide +kernel)
                  rcases k with _ | k
                  · exact absurd hl (by decide +kernel)
                  rcases k with _ | k
                  · exact absurd hl (by decide +kernel)
                  rcases k with _ | k
                  · exact absurd hl (by decide +kernel)
                  rcases k with _ | k
                  · exact absurd hl (by decide +kernel)
                  rcases k with _ | k
                  · exact absurd hl (by decide +kernel)
                  rcases k with _ | k
                  · exact absurd hl (by decide +kernel)
                  rcases k with _ | k
                  · exact absurd hl (by decide +kernel)
                  rcases k with _ | k
                  · exact absurd hl (by decide +kernel)
                  rcases k with _ | k
                  · exact absurd hl (by decide +kernel)
                  rcases k with _ | k
                  · exact absurd hl (by decide +kernel)
                  · simp at hd
                · show Inv.Steps _ _ _ _ _ _ _ _ [0, 1, 2, 3, 4, 5, 6, 7, 8, 9, 10, 11, 12, 13]
                  refine Inv.Steps.go (by decide) (by rfl) (fun σ wx hw hd K hK => ?_) ?_
                  · simp only [List.getElem_toArray, List.getElem_cons_zero, List.getElem_cons_succ, Act.put, List.setIfInBounds_toArray, List.set_cons_zero, List.set_cons_succ] at hK ⊢
                    refine wp_load_row 30 (.tmp 9) rfl b9 rfl 30 #[.slice a9 n9 m9, .slice c9 k9 l9] (0, 0) _ hw.P9 rfl rfl rfl ?_
                    simp only [Act.put, List.setIfInBounds_toArray, List.set_cons_zero, List.set_cons_succ]
                    exact hK.out _ _ hw (Below.refl _ _) (rfl)
                  refine Inv.Steps.go (by decide) (by rfl) (fun σ wx hw hd K hK => ?_) ?_
                  · simp only [List.getElem_toArray, List.getElem_cons_zero, List.getElem_cons_succ, Act.put, List.setIfInBounds_toArray, List.set_cons_zero, List.set_cons_succ] at hK ⊢
                    go_simp
                    exact hK.out _ _ hw (Below.refl _ _) (rfl)
                  refine Inv.Steps.go (by decide) (by rfl) (fun σ wx hw hd K hK => ?_) ?_
                  · simp only [List.getElem_toArray, List.getElem_cons_zero, List.getElem_cons_succ, Act.put, List.setIfInBounds_toArray, List.set_cons_zero, List.set_cons_succ] at hK ⊢
                    go_simp
                    exact hK.out _ _ hw (Below.refl _ _) (rfl)
                  refine Inv.Steps.go (by decide) (by rfl) (fun σ wx hw hd K hK => ?_) ?_
                  · obtain e57 : (σ 57) = .slice (some ⟨g, 0, none⟩) n sc := hd 2 (some 57) (by kernel_rfl) (by rfl)
                    simp only [List.getElem_toArray, List.getElem_cons_zero, List.getElem_cons_succ, Act.put, List.setIfInBounds_toArray, List.set_cons_zero, List.set_cons_succ, e57] at hK ⊢
                    go_simp
                    exact hK.out _ _ hw (Below.refl _ _) (rfl)
                  refine Inv.Steps.go (by decide) (by rfl) (fun σ wx hw hd K hK => ?_) ?_
                  · obtain e58 : (σ 58) = .int .i64 (n : Int) := hd 3 (some 58) (by kernel_rfl) (by rfl)
                    simp only [List.getElem_toArray, List.getElem_cons_zero, List.getElem_cons_succ, Act.put, List.setIfInBounds_toArray, List.set_cons_zero, List.set_cons_succ, e58] at hK ⊢
                    go_simp
                    exact hK.out _ _ hw (Below.refl _ _) (congrArg (Value.int .i64) (IntWalk.i64_in _ (by omega)))
                  refine Inv.Steps.go (by decide) (by rfl) (fun σ wx hw hd K hK => ?_) ?_
                  · simp only [List.getElem_toArray, List.getElem_cons_zero, List.getElem_cons_succ, Act.put, List.setIfInBounds_toArray, List.set_cons_zero, List.set_cons_succ] at hK ⊢
                    go_simp
                    exact hK.out _ _ hw (Below.refl _ _) (rfl)
                  refine Inv.Steps.go (by decide) (by rfl) (fun σ wx hw hd K hK => ?_) ?_
                  · obtain e59 : (σ 59) = .int .i64 ((n : Int) - 1) := hd 4 (some 59) (by kernel_rfl) (by rfl)
                    obtain e60 : (σ 60) = .int .i64 (j : Int) := hd 5 (some 60) (by kernel_rfl) (by rfl)
                    simp only [List.getElem_toArray, List.getElem_cons_zero, List.getElem_cons_succ, Act.put, List.setIfInBounds_toArray, List.set_cons_zero, List.set_cons_succ, e59, e60] at hK ⊢
                    go_simp
                    try simp only [hjj.out] at hK ⊢
                    exact hK.out _ _ hw (Below.refl _ _) (congrArg (Value.int .i64) (IntWalk.i64_in _ (by omega)))
                  refine Inv.Steps.go (by decide) (by rfl) (fun σ wx hw hd K hK => ?_) ?_
                  · obtain e56 : (σ 56) = .slice (some ⟨g, 0, none⟩) n sc := hd 1 (some 56) (by kernel_rfl) (by rfl)
                    obtain e61 : (σ 61) = .int .i64 (jj : Int) := hd 6 (some 61) (by kernel_rfl) (by rfl)
                    simp only [List.getElem_toArray, List.getElem_cons_zero, List.getElem_cons_succ, Act.put, List.setIfInBounds_toArray, List.set_cons_zero, List.set_cons_succ, e56, e61] at hK ⊢
                    go_simp
                    exact hK.out _ _ hw (Below.refl _ _) (rfl)
                  refine Inv.Steps.go (by decide) (by rfl) (fun σ wx hw hd K hK => ?_) ?_
                  · obtain e62 : (σ 62) = .pointer (some ⟨g, jj, none⟩) := hd 7 (some 62) (by kernel_rfl) (by rfl)
                    simp only [List.getElem_toArray, List.getElem_cons_zero, List.getElem_cons_succ, Act.put, List.setIfInBounds_toArray, List.set_cons_zero, List.set_cons_succ, e62] at hK ⊢
                    have zc := CE2.out _ hw.B
                    go_simp
                    exact hK.out _ _ hw (Below.refl _ _) (rfl)
                  refine Inv.Steps.go (by decide) (by rfl) (fun σ wx hw hd K hK => ?_) ?_
                  · obtain e55 : (σ 55) = .agg #[.slice a9 n9 m9, .slice c9 k9 l9] := hd 0 (some 55) (by kernel_rfl) (by rfl)
                    obtain e63 : (σ 63) = .int .i64 q2 := hd 8 (some 63) (by kernel_rfl) (by rfl)
                    simp only [List.getElem_toArray, List.getElem_cons_zero, List.getElem_cons_succ, Act.put, List.setIfInBounds_toArray, List.set_cons_zero, List.set_cons_succ, e55, e63] at hK ⊢
                    go_simp
                    go_at_call 14
                    refine (accept_any hw.Rb q2 (by omega) (by omega)).mono ?_
                    rintro e w1 ⟨⟨vg, vl, rfl, R3⟩, hb⟩
                    dsimp only
                    replace R3 := Rc.ext (f' := (inl (L.drop jj))) (g' := fun _ => false) R3 (fun x => inl_drop hq2.out x) (fun x => rfl)
                    obtain ⟨xa, xn, xc, ya, yn, yc, rfl, rfl⟩ := Rc.form R3
                    exact hK.out _ _ (hw.below hb) hb (⟨_, _, _, _, _, _, _, rfl, R3⟩)
                  refine Inv.Steps.go (by decide) (by rfl) (fun σ wx hw hd K hK => ?_) ?_
                  · obtain ⟨y1, m1, d1, y2, m2, d2, bz, e64, RX⟩ : ∃ a n c a' n' c' bz, (σ 64) = .tuple #[.agg #[.slice a n c, .slice a' n' c'], .bool bz, .int .i64 0] ∧ Rc wx (.slice a n c) (.slice a' n' c') (inl (L.drop jj)) (fun _ => false) := hd 9 (some 64) (by kernel_rfl) (by rfl)
                    simp only [List.getElem_toArray, List.getElem_cons_zero, List.getElem_cons_succ, Act.put, List.setIfInBounds_toArray, List.set_cons_zero, List.set_cons_succ, e64] at hK ⊢
                    go_simp
                    exact hK.out _ _ hw (Below.refl _ _) (⟨_, _, _, _, _, _, _, rfl, RX⟩)
                  refine Inv.Steps.go (by decide) (by rfl) (fun σ wx hw hd K hK => ?_) ?_
                  · obtain ⟨y1, m1, d1, y2, m2, d2, bz, e54, RX⟩ : ∃ a n c a' n' c' bz, (σ 54) = .tuple #[.agg #[.slice a n c, .slice a' n' c'], .bool bz, .int .i64 0] ∧ Rc wx (.slice a n c) (.slice a' n' c') (inl (L.drop jj)) (fun _ => false) := hd 10 (some 54) (by kernel_rfl) (by rfl)
                    simp only [List.getElem_toArray, List.getElem_cons_zero, List.getElem_cons_succ, Act.put, List.setIfInBounds_toArray, List.set_cons_zero, List.set_cons_succ, e54] at hK ⊢
                    go_simp
                    exact hK.out _ _ hw (Below.refl _ _) (⟨_, _, _, _, _, _, rfl, RX⟩)
                  refine Inv.Steps.go (by decide) (by rfl) (fun σ wx hw hd K hK => ?_) ?_
                  · obtain ⟨y1, m1, d1, y2, m2, d2, bz, e54, RX⟩ : ∃ a n c a' n' c' bz, (σ 54) = .tuple #[.agg #[.slice a n c, .slice a' n' c'], .bool bz, .int .i64 0] ∧ Rc wx (.slice a n c) (.slice a' n' c') (inl (L.drop jj)) (fun _ => false) := hd 10 (some 54) (by kernel_rfl) (by rfl)
                    simp only [List.getElem_toArray, List.getElem_cons_zero, List.getElem_cons_succ, Act.put, List.setIfInBounds_toArray, List.set_cons_zero, List.set_cons_succ, e54] at hK ⊢
                    go_simp
                    exact hK.out _ _ hw (Below.refl _ _) (trivial)
                  refine Inv.Steps.go (by decide) (by rfl) (fun σ wx hw hd K hK => ?_) ?_
                  · obtain ⟨y1, m1, d1, y2, m2, d2, bz, e54, RX⟩ : ∃ a n c a' n' c' bz, (σ 54) = .tuple #[.agg #[.slice a n c, .slice a' n' c'], .bool bz, .int .i64 0] ∧ Rc wx (.slice a n c) (.slice a' n' c') (inl (L.drop jj)) (fun _ => false) := hd 10 (some 54) (by kernel_rfl) (by rfl)
                    simp only [List.getElem_toArray, List.getElem_cons_zero, List.getElem_cons_succ, Act.put, List.setIfInBounds_toArray, List.set_cons_zero, List.set_cons_succ, e54] at hK ⊢
                    go_simp
                    exact hK.out _ _ hw (Below.refl _ _) (trivial)
                  exact Inv.Steps.nil
                · intro b1 b2 σ wx hw hd
                  cases b1 <;> cases b2
                  · obtain ⟨y1, m1, d1, y2, m2, d2, e65, RX⟩ : ∃ a n c a' n' c', (σ 65) = .agg #[.slice a n c, .slice a' n' c'] ∧ Rc wx (.slice a n c) (.slice a' n' c') (inl (L.drop jj)) (fun _ => false) := hd 11 (some 65) (by kernel_rfl) (by decide) (by decide) (by rfl)
                    have HT : ∃ a n c a' n' c' bz, (σ 54) = .tuple #[.agg #[.slice a n c, .slice a' n' c'], .bool bz, .int .i64 0] ∧ Rc wx (.slice a n c) (.slice a' n' c') (inl (L.drop jj)) (fun _ => false) := hd 10 (some 54) (by kernel_rfl) (by decide) (by decide) (by rfl)
                    obtain ⟨z1, z2, z3, z4, z5, z6, bz, eT, _⟩ := HT
                    simp only [e65, eT]
                    refine Inv.take (i := 12) (v := .bool bz) (by decide) rfl (by kernel_rfl) (by kernel_rfl) (by kernel_rfl) (fun _ _ _ h => h) (by rfl) (fun w' => ?_) ?_
                    · simp only [List.getElem_toArray, List.getElem_cons_zero, List.getElem_cons_succ]
                      go_simp
                    try simp only [Act.put, List.setIfInBounds_toArray, List.set_cons_zero, List.set_cons_succ]
                    refine Inv.take (i := 13) (v := .int .i64 0) (by decide) rfl (by kernel_rfl) (by kernel_rfl) (by kernel_rfl) (fun _ _ _ h => h) (by rfl) (fun w' => ?_) ?_
                    · simp only [List.getElem_toArray, List.getElem_cons_zero, List.getElem_cons_succ]
                      go_simp
                    try simp only [Act.put, List.setIfInBounds_toArray, List.set_cons_zero, List.set_cons_succ]
                    obtain ⟨k0, k1_⟩ := Spn.c2 hw.P9
                    have f0 := frozen_of_row wx b9 0 _ _ hw.P9
                    have f1 := frozen_of_row wx b9 1 _ _ hw.P9
                    refine Inv.one (i := 14) (by decide) (by kernel_rfl) (by rfl) (fun K hK => ?_)
                    simp only [List.getElem_toArray, List.getElem_cons_zero, List.getElem_cons_succ, Act.put, List.setIfInBounds_toArray, List.set_cons_zero, List.set_cons_succ] at hK ⊢
                    go_simp
                    refine hK.out _ _ ?_
                    clear hK K k0 k1_ f0 f1
                    rw [← set_two hw.P9]
                    refine Inv.done (by kernel_rfl) (NoPanic.normal ?_)
                    have O9 := Lib.hid (hw.put9 RX)
                    clear hd hw RX e65 eT
                    generalize wx.setRow b9 #[.slice y1 m1 d1, .slice y2 m2 d2] = wT at *
                    go_wp2_with fail
                    go_roundw
                    case rel => exact ⟨j + 1, jj, _, _, _, _, _, _, _, _, _, _, _, _, by omega, by omega, by go_num, O9⟩
                    case measure => simp [intOf]; omega
                  · obtain ⟨y1, m1, d1, y2, m2, d2, e65, RX⟩ : ∃ a n c a' n' c', (σ 65) = .agg #[.slice a n c, .slice a' n' c'] ∧ Rc wx (.slice a n c) (.slice a' n' c') (inl (L.drop jj)) (fun _ => false) := hd 11 (some 65) (by kernel_rfl) (by decide) (by decide) (by rfl)
                    have HT : ∃ a n c a' n' c' bz, (σ 54) = .tuple #[.agg #[.slice a n c, .slice a' n' c'], .bool bz, .int .i64 0] ∧ Rc wx (.slice a n c) (.slice a' n' c') (inl (L.drop jj)) (fun _ => false) := hd 10 (some 54) (by kernel_rfl) (by decide) (by decide) (by rfl)
                    obtain ⟨z1, z2, z3, z4, z5, z6, bz, eT, _⟩ := HT
                    simp only [e65, eT]
                    refine Inv.take (i := 12) (v := .bool bz) (by decide) rfl (by kernel_rfl) (by kernel_rfl) (by kernel_rfl) (fun _ _ _ h => h) (by rfl) (fun w' => ?_) ?_
                    · simp only [List.getElem_toArray, List.getElem_cons_zero, List.getElem_cons_succ]
                      go_simp
                    try simp only [Act.put, List.setIfInBounds_toArray, List.set_cons_zero, List.set_cons_succ]
                    obtain ⟨k0, k1_⟩ := Spn.c2 hw.P9
                    have f0 := frozen_of_row wx b9 0 _ _ hw.P9
                    have f1 := frozen_of_row wx b9 1 _ _ hw.P9
                    refine Inv.one (i := 14) (by decide) (by kernel_rfl) (by rfl) (fun K hK => ?_)
                    simp only [List.getElem_toArray, List.getElem_cons_zero, List.getElem_cons_succ, Act.put, List.setIfInBounds_toArray, List.set_cons_zero, List.set_cons_succ] at hK ⊢
                    go_simp
                    refine hK.out _ _ ?_
                    clear hK K k0 k1_ f0 f1
                    rw [← set_two hw.P9]
                    refine Inv.done (by kernel_rfl) (NoPanic.normal ?_)
                    have O9 := Lib.hid (hw.put9 RX)
                    clear hd hw RX e65 eT
                    generalize wx.setRow b9 #[.slice y1 m1 d1, .slice y2 m2 d2] = wT at *
                    go_wp2_with fail
                    go_roundw
                    case rel => exact ⟨j + 1, jj, _, _, _, _, _, _, _, _, _, _, _, _, by omega, by omega, by go_num, O9⟩
                    case measure => simp [intOf]; omega
                  · obtain ⟨y1, m1, d1, y2, m2, d2, e65, RX⟩ : ∃ a n c a' n' c', (σ 65) = .agg #[.slice a n c, .slice a' n' c'] ∧ Rc wx (.slice a n c) (.slice a' n' c') (inl (L.drop jj)) (fun _ => false) := hd 11 (some 65) (by kernel_rfl) (by decide) (by decide) (by rfl)
                    have HT : ∃ a n c a' n' c' bz, (σ 54) = .tuple #[.agg #[.slice a n c, .slice a' n' c'], .bool bz, .int .i64 0] ∧ Rc wx (.slice a n c) (.slice a' n' c') (inl (L.drop jj)) (fun _ => false) := hd 10 (some 54) (by kernel_rfl) (by decide) (by decide) (by rfl)
                    obtain ⟨z1, z2, z3, z4, z5, z6, bz, eT, _⟩ := HT
                    simp only [e65, eT]
                    refine Inv.take (i := 13) (v := .int .i64 0) (by decide) rfl (by kernel_rfl) (by kernel_rfl) (by kernel_rfl) (fun _ _ _ h => h) (by rfl) (fun w' => ?_) ?_
                    · simp only [List.getElem_toArray, List.getElem_cons_zero, List.getElem_cons_succ]
                      go_simp
                    try simp only [Act.put, List.setIfInBounds_toArray, List.set_cons_zero, List.set_cons_succ]
                    obtain ⟨k0, k1_⟩ := Spn.c2 hw.P9
                    have f0 := frozen_of_row wx b9 0 _ _ hw.P9
                    have f1 := frozen_of_row wx b9 1 _ _ hw.P9
                    refine Inv.one (i := 14) (by decide) (by kernel_rfl) (by rfl) (fun K hK => ?_)
                    simp only [List.getElem_toArray, List.getElem_cons_zero, List.getElem_cons_succ, Act.put, List.setIfInBounds_toArray, List.set_cons_zero, List.set_cons_succ] at hK ⊢
                    go_simp
                    refine hK.out _ _ ?_
                    clear hK K k0 k1_ f0 f1
                    rw [← set_two hw.P9]
                    refine Inv.done (by kernel_rfl) (NoPanic.normal ?_)
                    have O9 := Lib.hid (hw.put9 RX)
                    clear hd hw RX e65 eT
                    generalize wx.setRow b9 #[.slice y1 m1 d1, .slice y2 m2 d2] = wT at *
                    go_wp2_with fail
                    go_roundw
                    case rel => exact ⟨j + 1, jj, _, _, _, _, _, _, _, _, _, _, _, _, by omega, by omega, by go_num, O9⟩
                    case measure => simp [intOf]; omega
                  · obtain ⟨y1, m1, d1, y2, m2, d2, e65, RX⟩ : ∃ a n c a' n' c', (σ 65) = .agg #[.slice a n c, .slice a' n' c'] ∧ Rc wx (.slice a n c) (.slice a' n' c') (inl (L.drop jj)) (fun _ => false) := hd 11 (some 65) (by kernel_rfl) (by decide) (by decide) (by rfl)
                    have HT : ∃ a n c a' n' c' bz, (σ 54) = .tuple #[.agg #[.slice a n c, .slice a' n' c'], .bool bz, .int .i64 0] ∧ Rc wx (.slice a n c) (.slice a' n' c') (inl (L.drop jj)) (fun _ => false) := hd 10 (some 54) (by kernel_rfl) (by decide) (by decide) (by rfl)
                    obtain ⟨z1, z2, z3, z4, z5, z6, bz, eT, _⟩ := HT
                    simp only [e65, eT]
                    obtain ⟨k0, k1_⟩ := Spn.c2 hw.P9
                    have f0 := frozen_of_row wx b9 0 _ _ hw.P9
                    have f1 := frozen_of_row wx b9 1 _ _ hw.P9
                    refine Inv.one (i := 14) (by decide) (by kernel_rfl) (by rfl) (fun K hK => ?_)
                    simp only [List.getElem_toArray, List.getElem_cons_zero, List.getElem_cons_succ, Act.put, List.setIfInBounds_toArray, List.set_cons_zero, List.set_cons_succ] at hK ⊢
                    go_simp
                    refine hK.out _ _ ?_
                    clear hK K k0 k1_ f0 f1
                    rw [← set_two hw.P9]
                    refine Inv.done (by kernel_rfl) (NoPanic.normal ?_)
                    have O9 := Lib.hid (hw.put9 RX)
                    clear hd hw RX e65 eT
                    generalize wx.setRow b9 #[.slice y1 m1 d1, .slice y2 m2 d2] = wT at *
                    go_wp2_with fail
                    go_roundw
                    case rel => exact ⟨j + 1, jj, _, _, _, _, _, _, _, _, _, _, _, _, by omega, by omega, by go_num, O9⟩
                    case measure => simp [intOf]; omega
              · obtain ⟨y1, m1, d1, y2, m2, d2, e51, RX⟩ : ∃ a n c a' n' c', (σ 51) = .agg #[.slice a n c, .slice a' n' c'] ∧ Rc wx (.slice a n c) (.slice a' n' c') (inl (L.take (j + 1))) (fun _ => false) := hd 7 (some 51) (by kernel_rfl) (by decide) (by decide) (by rfl)
                have HT : ∃ a n c a' n' c' bz, (σ 44) = .tuple #[.agg #[.slice a n c, .slice a' n' c'], .bool bz, .int .i64 0] ∧ Rc wx (.slice a n c) (.slice a' n' c') (inl (L.take (j + 1))) (fun _ => false) := hd 6 (some 44) (by kernel_rfl) (by decide) (by decide) (by rfl)
                obtain ⟨z1, z2, z3, z4, z5, z6, bz, eT, _⟩ := HT
                simp only [e51, eT]
                refine Inv.take (i := 9) (v := .int .i64 0) (by decide) rfl (by kernel_rfl) (by kernel_rfl) (by kernel_rfl) (fun _ _ _ h => h) (by rfl) (fun w' => ?_) ?_
                · simp only [List.getElem_toArray, List.getElem_cons_zero, List.getElem_cons_succ]
                  go_simp
                try simp only [Act.put, List.setIfInBounds_toArray, List.set_cons_zero, List.set_cons_succ]
                obtain ⟨k0, k1_⟩ := Spn.c2 hw.P8
                have f0 := frozen_of_row wx b8 0 _ _ hw.P8
                have f1 := frozen_of_row wx b8 1 _ _ hw.P8
                refine Inv.one (i := 10) (by decide) (by kernel_rfl) (by rfl) (fun K hK => ?_)
                simp only [List.getElem_toArray, List.getElem_cons_zero, List.getElem_cons_succ, Act.put, List.setIfInBounds_toArray, List.set_cons_zero, List.set_cons_succ] at hK ⊢
                go_simp
                refine hK.out _ _ ?_
                clear hK K k0 k1_ f0 f1
                rw [← set_two hw.P8]
                refine Inv.done (by kernel_rfl) (NoPanic.normal ?_)
                have O9 := Lib.hid (hw.put8 RX)
                clear hd hw RX e51 eT
                generalize wx.setRow b8 #[.slice y1 m1 d1, .slice y2 m2 d2] = wT at *
                go_upto_region 14 with fail
                have hw0 : OB wL b8 b9 (.slice y1 m1 d1) (.slice y2 m2 d2) (.slice a9 n9 m9) (.slice c9 k9 l9) (inl (L.take (j + 1))) (fun _ => false) (inl (L.drop (jj + 1))) (fun _ => false) wT.drew := O9.out.below (Below.refl _ _).drew
                clear O9
                refine wp_region_noPanic ?_
                refine wp_region_any (by kernel_rfl) ?_
                refine Inv.wpAny_inv2 (fun k => k == 14) 12 13 [55, 56, 57, 58, 59, 60, 61, 62, 63, 64, 54, 65, 66, 67] (fun w' => OB wL b8 b9 (.slice y1 m1 d1) (.slice y2 m2 d2) (.slice a9 n9 m9) (.slice c9 k9 l9) (inl (L.take (j + 1))) (fun _ => false) (inl (L.drop (jj + 1))) (fun _ => false) w') (fun _ w1 w2 => Below w1.heap.size w1 w2) (fun k => ([fun v_ w_ => v_ = .agg #[.slice a9 n9 m9, .slice c9 k9 l9], fun v_ w_ => v_ = .slice (some ⟨g, 0, none⟩) n sc, fun v_ w_ => v_ = .slice (some ⟨g, 0, none⟩) n sc, fun v_ w_ => v_ = .int .i64 (n : Int), fun v_ w_ => v_ = .int .i64 ((n : Int) - 1), fun v_ w_ => v_ = .int .i64 (j : Int), fun v_ w_ => v_ = .int .i64 (jj : Int), fun v_ w_ => v_ = .pointer (some ⟨g, jj, none⟩), fun v_ w_ => v_ = .int .i64 q2, fun v_ w_ => ∃ a n c a' n' c' bz, v_ = .tuple #[.agg #[.slice a n c, .slice a' n' c'], .bool bz, .int .i64 0] ∧ Rc w_ (.slice a n c) (.slice a' n' c') (inl (L.drop jj)) (fun _ => false), fun v_ w_ => ∃ a n c a' n' c' bz, v_ = .tuple #[.agg #[.slice a n c, .slice a' n' c'], .bool bz, .int .i64 0] ∧ Rc w_ (.slice a n c) (.slice a' n' c') (inl (L.drop jj)) (fun _ => false), fun v_ w_ => ∃ a n c a' n' c', v_ = .agg #[.slice a n c, .slice a' n' c'] ∧ Rc w_ (.slice a n c) (.slice a' n' c') (inl (L.drop jj)) (fun _ => false), fun v_ w_ => True, fun v_ w_ => True, fun v_ w_ => True] : List (Value → World → Prop)).getD k (fun _ _ => True)) _ (fun σ => by simp only [Inv.putAll, List.foldl_cons, List.foldl_nil, Act.put, List.setIfInBounds_toArray, List.set_cons_zero, List.set_cons_succ]; rfl) (by kernel_rfl) (by kernel_rfl) (by decide) ?_ hw0 ?_ ?_ (fun b1 b2 => cond b1 (cond b2 1 2) (cond b2 2 3)) (fun b1 b2 => #[true, true, true, true, true, true, true, true, true, true, true, true, b1, b2, false]) (by intro b1 b2; cases b1 <;> cases b2 <;> kernel_rfl) (by intro b1 b2; cases b1 <;> cases b2 <;> kernel_rfl) (by exact ⟨rfl, rfl⟩) ?_
                · intro j k v w1 w2 hjk hv hr
                  rcases k with _ | k
                  · exact hv
                  rcases k with _ | k
                  · exact hv
                  rcases k with _ | k
                  · exact hv
                  rcases k with _ | k
                  · exact hv
                  rcases k with _ | k
                  · exact hv
                  rcases k with _ | k
                  · exact hv
                  rcases k with _ | k
                  · exact hv
                  rcases k with _ | k
                  · exact hv
                  rcases k with _ | k
                  · exact hv
                  rcases k with _ | k
                  · exact by obtain ⟨a, n_, c, a', n', c', bz, e, h⟩ := hv; exact ⟨a, n_, c, a', n', c', bz, e, h.keep hr⟩
                  rcases k with _ | k
                  · exact by obtain ⟨a, n_, c, a', n', c', bz, e, h⟩ := hv; exact ⟨a, n_, c, a', n', c', bz, e, h.keep hr⟩
                  rcases k with _ | k
                  · exact by obtain ⟨a, n_, c, a', n', c', e, h⟩ := hv; exact ⟨a, n_, c, a', n', c', e, h.keep hr⟩
                  rcases k with _ | k
                  · exact hv
                  rcases k with _ | k
                  · exact hv
                  rcases k with _ | k
                  · exact hv
                  · exact hv
                · intro k t hl hd
                  rcases k with _ | k
                  · exact absurd hl (by decide +kernel)
                  rcases k with _ | k
                  · exact absurd hl (by decide +kernel)
                  rcases k with _ | k
                  · exact absurd hl (by decide +kernel)
                  rcases k with _ | k
                  · exact absurd hl (by decide +kernel)
                  rcases k with _ | k
                  · exact absurd hl (by decide +kernel)
                  rcases k with _ | k
                  · exact absurd hl (by decide +kernel)
                  rcases k with _ | k
                  · exact absurd hl (by decide +kernel)
                  rcases k with _ | k
                  · exact absurd hl (by decide +kernel)
                  rcases k with _ | k
                  · exact absurd hl (by decide +kernel)
                  rcases k with _ | k
                  · exact absurd hl (by decide +kernel)
                  rcases k with _ | k
                  · exact absurd hl (by decide +kernel)
                  rcases k with _ | k
                  · exact absurd hl (by decide +kernel)
                  rcases k with _ | k
                  · exact absurd hl (by decide +kernel)
                  rcases k with _ | k
                  · exact absurd hl (by decide +kernel)
                  rcases k with _ | k
                  · exact absurd hl (by decide +kernel)
                  · simp at hd
                · show Inv.Steps _ _ _ _ _ _ _ _ [0, 1, 2, 3, 4, 5, 6, 7, 8, 9, 10, 11, 12, 13]
                  refine Inv.Steps.go (by decide) (by rfl) (fun σ wx hw hd K hK => ?_) ?_
                  · simp only [List.getElem_toArray, List.getElem_cons_zero, List.getElem_cons_succ, Act.put, List.setIfInBounds_toArray, List.set_cons_zero, List.set_cons_succ] at hK ⊢
                    refine wp_load_row 30 (.tmp 9) rfl b9 rfl 30 #[.slice a9 n9 m9, .slice c9 k9 l9] (0, 0) _ hw.P9 rfl rfl rfl ?_
                    simp only [Act.put, List.setIfInBounds_toArray, List.set_cons_zero, List.set_cons_succ]
                    exact hK.out _ _ hw (Below.refl _ _) (rfl)
                  refine Inv.Steps.go (by decide) (by rfl) (fun σ wx hw hd K hK => ?_) ?_
                  · simp only [List.getElem_toArray, List.getElem_cons_zero, List.getElem_cons_succ, Act.put, List.setIfInBounds_toArray, List.set_cons_zero, List.set_cons_succ] at hK ⊢
                    go_simp
                    exact hK.out _ _ hw (Below.refl _ _) (rfl)
                  refine Inv.Steps.go (by decide) (by rfl) (fun σ wx hw hd K hK => ?_) ?_
                  · simp only [List.getElem_toArray, List.getElem_cons_zero, List.getElem_cons_succ, Act.put, List.setIfInBounds_toArray, List.set_cons_zero, List.set_cons_succ] at hK ⊢
                    go_simp
                    exact hK.out _ _ hw (Below.refl _ _) (rfl)
                  refine Inv.Steps.go (by decide) (by rfl) (fun σ wx hw hd K hK => ?_) ?_
                  · obtain e57 : (σ 57) = .slice (some ⟨g, 0, none⟩) n sc := hd 2 (some 57) (by kernel_rfl) (by rfl)
                    simp only [List.getElem_toArray, List.getElem_cons_zero, List.getElem_cons_succ, Act.put, List.setIfInBounds_toArray, List.set_cons_zero, List.set_cons_succ, e57] at hK ⊢
                    go_simp
                    exact hK.out _ _ hw (Below.refl _ _) (rfl)
                  refine Inv.Steps.go (by decide) (by rfl) (fun σ wx hw hd K hK => ?_) ?_
                  · obtain e58 : (σ 58) = .int .i64 (n : Int) := hd 3 (some 58) (by kernel_rfl) (by rfl)
                    simp only [List.getElem_toArray, List.getElem_cons_zero, List.getElem_cons_succ, Act.put, List.setIfInBounds_toArray, List.set_cons_zero, List.set_cons_succ, e58] at hK ⊢
                    go_simp
                    exact hK.out _ _ hw (Below.refl _ _) (congrArg (Value.int .i64) (IntWalk.i64_in _ (by omega)))
                  refine Inv.Steps.go (by decide) (by rfl) (fun σ wx hw hd K hK => ?_) ?_
                  · simp only [List.getElem_toArray, List.getElem_cons_zero, List.getElem_cons_succ, Act.put, List.setIfInBounds_toArray, List.set_cons_zero, List.set_cons_succ] at hK ⊢
                    go_simp
                    exact hK.out _ _ hw (Below.refl _ _) (rfl)
                  refine Inv.Steps.go (by decide) (by rfl) (fun σ wx hw hd K hK => ?_) ?_
                  · obtain e59 : (σ 59) = .int .i64 ((n : Int) - 1) := hd 4 (some 59) (by kernel_rfl) (by rfl)
                    obtain e60 : (σ 60) = .int .i64 (j : Int) := hd 5 (some 60) (by kernel_rfl) (by rfl)
                    simp only [List.getElem_toArray, List.getElem_cons_zero, List.getElem_cons_succ, Act.put, List.setIfInBounds_toArray, List.set_cons_zero, List.set_cons_succ, e59, e60] at hK ⊢
                    go_simp
                    try simp only [hjj.out] at hK ⊢
                    exact hK.out _ _ hw (Below.refl _ _) (congrArg (Value.int .i64) (IntWalk.i64_in _ (by omega)))
                  refine Inv.Steps.go (by decide) (by rfl) (fun σ wx hw hd K hK => ?_) ?_
                  · obtain e56 : (σ 56) = .slice (some ⟨g, 0, none⟩) n sc := hd 1 (some 56) (by kernel_rfl) (by rfl)
                    obtain e61 : (σ 61) = .int .i64 (jj : Int) := hd 6 (some 61) (by kernel_rfl) (by rfl)
                    simp only [List.getElem_toArray, List.getElem_cons_zero, List.getElem_cons_succ, Act.put, List.setIfInBounds_toArray, List.set_cons_zero, List.set_cons_succ, e56, e61] at hK ⊢
                    go_simp
                    exact hK.out _ _ hw (Below.refl _ _) (rfl)
                  refine Inv.Steps.go (by decide) (by rfl) (fun σ wx hw hd K hK => ?_) ?_
                  · obtain e62 : (σ 62) = .pointer (some ⟨g, jj, none⟩) := hd 7 (some 62) (by kernel_rfl) (by rfl)
                    simp only [List.getElem_toArray, List.getElem_cons_zero, List.getElem_cons_succ, Act.put, List.setIfInBounds_toArray, List.set_cons_zero, List.set_cons_succ, e62] at hK ⊢
                    have zc := CE2.out _ hw.B
                    go_simp
                    exact hK.out _ _ hw (Below.refl _ _) (rfl)
                  refine Inv.Steps.go (by decide) (by rfl) (fun σ wx hw hd K hK => ?_) ?_
                  · obtain e55 : (σ 55) = .agg #[.slice a9 n9 m9, .slice c9 k9 l9] := hd 0 (some 55) (by kernel_rfl) (by rfl)
                    obtain e63 : (σ 63) = .int .i64 q2 := hd 8 (some 63) (by kernel_rfl) (by rfl)
                    simp only [List.getElem_toArray, List.getElem_cons_zero, List.getElem_cons_succ, Act.put, List.setIfInBounds_toArray, List.set_cons_zero, List.set_cons_succ, e55, e63] at hK ⊢
                    go_simp
                    go_at_call 14
                    refine (accept_any hw.Rb q2 (by omega) (by omega)).mono ?_
                    rintro e w1 ⟨⟨vg, vl, rfl, R3⟩, hb⟩
                    dsimp only
                    replace R3 := Rc.ext (f' := (inl (L.drop jj))) (g' := fun _ => false) R3 (fun x => inl_drop hq2.out x) (fun x => rfl)
                    obtain ⟨xa, xn, xc, ya, yn, yc, rfl, rfl⟩ := Rc.form R3
                    exact hK.out _ _ (hw.below hb) hb (⟨_, _, _, _, _, _, _, rfl, R3⟩)
                  refine Inv.Steps.go (by decide) (by rfl) (fun σ wx hw hd K hK => ?_) ?_
                  · obtain ⟨y1, m1, d1, y2, m2, d2, bz, e64, RX⟩ : ∃ a n c a' n' c' bz, (σ 64) = .tuple #[.agg #[.slice a n c, .slice a' n' c'], .bool bz, .int .i64 0] ∧ Rc wx (.slice a n c) (.slice a' n' c') (inl (L.drop jj)) (fun _ => false) := hd 9 (some 64) (by kernel_rfl) (by rfl)
                    simp only [List.getElem_toArray, List.getElem_cons_zero, List.getElem_cons_succ, Act.put, List.setIfInBounds_toArray, List.set_cons_zero, List.set_cons_succ, e64] at hK ⊢
                    go_simp
                    exact hK.out _ _ hw (Below.refl _ _) (⟨_, _, _, _, _, _, _, rfl, RX⟩)
                  refine Inv.Steps.go (by decide) (by rfl) (fun σ wx hw hd K hK => ?_) ?_
                  · obtain ⟨y1, m1, d1, y2, m2, d2, bz, e54, RX⟩ : ∃ a n c a' n' c' bz, (σ 54) = .tuple #[.agg #[.slice a n c, .slice a' n' c'], .bool bz, .int .i64 0] ∧ Rc wx (.slice a n c) (.slice a' n' c') (inl (L.drop jj)) (fun _ => false) := hd 10 (some 54) (by kernel_rfl) (by rfl)
                    simp only [List.getElem_toArray, List.getElem_cons_zero, List.getElem_cons_succ, Act.put, List.setIfInBounds_toArray, List.set_cons_zero, List.set_cons_succ, e54] at hK ⊢
                    go_simp
                    exact hK.out _ _ hw (Below.refl _ _) (⟨_, _, _, _, _, _, rfl, RX⟩)
                  refine Inv.Steps.go (by decide) (by rfl) (fun σ wx hw hd K hK => ?_) ?_
                  · obtain ⟨y1, m1, d1, y2, m2, d2, bz, e54, RX⟩ : ∃ a n c a' n' c' bz, (σ 54) = .tuple #[.agg #[.slice a n c, .slice a' n' c'], .bool bz, .int .i64 0] ∧ Rc wx (.slice a n c) (.slice a' n' c') (inl (L.drop jj)) (fun _ => false) := hd 10 (some 54) (by kernel_rfl) (by rfl)
                    simp only [List.getElem_toArray, List.getElem_cons_zero, List.getElem_cons_succ, Act.put, List.setIfInBounds_toArray, List.set_cons_zero, List.set_cons_succ, e54] at hK ⊢
                    go_simp
                    exact hK.out _ _ hw (Below.refl _ _) (trivial)
                  refine Inv.Steps.go (by decide) (by rfl) (fun σ wx hw hd K hK => ?_) ?_
                  · obtain ⟨y1, m1, d1, y2, m2, d2, bz, e54, RX⟩ : ∃ a n c a' n' c' bz, (σ 54) = .tuple #[.agg #[.slice a n c, .slice a' n' c'], .bool bz, .int .i64 0] ∧ Rc wx (.slice a n c) (.slice a' n' c') (inl (L.drop jj)) (fun _ => false) := hd 10 (some 54) (by kernel_rfl) (by rfl)
                    simp only [List.getElem_toArray, List.getElem_cons_zero, List.getElem_cons_succ, Act.put, List.setIfInBounds_toArray, List.set_cons_zero, List.set_cons_succ, e54] at hK ⊢
                    go_simp
                    exact hK.out _ _ hw (Below.refl _ _) (trivial)
                  exact Inv.Steps.nil
                · intro b1 b2 σ wx hw hd
                  cases b1 <;> cases b2
                  · obtain ⟨y1, m1, d1, y2, m2, d2, e65, RX⟩ : ∃ a n c a' n' c', (σ 65) = .agg #[.slice a n c, .slice a' n' c'] ∧ Rc wx (.slice a n c) (.slice a' n' c') (inl (L.drop jj)) (fun _ => false) := hd 11 (some 65) (by kernel_rfl) (by decide) (by decide) (by rfl)
                    have HT : ∃ a n c a' n' c' bz, (σ 54) = .tuple #[.agg #[.slice a n c, .slice a' n' c'], .bool bz, .int .i64 0] ∧ Rc wx (.slice a n c) (.slice a' n' c') (inl (L.drop jj)) (fun _ => false) := hd 10 (some 54) (by kernel_rfl) (by decide) (by decide) (by rfl)
                    obtain ⟨z1, z2, z3, z4, z5, z6, bz, eT, _⟩ := HT
                    simp only [e65, eT]
                    refine Inv.take (i := 12) (v := .bool bz) (by decide) rfl (by kernel_rfl) (by kernel_rfl) (by kernel_rfl) (fun _ _ _ h => h) (by rfl) (fun w' => ?_) ?_
                    · simp only [List.getElem_toArray, List.getElem_cons_zero, List.getElem_cons_succ]
                      go_simp
                    try simp only [Act.put, List.setIfInBounds_toArray, List.set_cons_zero, List.set_cons_succ]
                    refine Inv.take (i := 13) (v := .int .i64 0) (by decide) rfl (by kernel_rfl) (by kernel_rfl) (by kernel_rfl) (fun _ _ _ h => h) (by rfl) (fun w' => ?_) ?_
                    · simp only [List.getElem_toArray, List.getElem_cons_zero, List.getElem_cons_succ]
                      go_simp
                    try simp only [Act.put, List.setIfInBounds_toArray, List.set_cons_zero, List.set_cons_succ]
                    obtain ⟨k0, k1_⟩ := Spn.c2 hw.P9
                    have f0 := frozen_of_row wx b9 0 _ _ hw.P9
                    have f1 := frozen_of_row wx b9 1 _ _ hw.P9
                    refine Inv.one (i := 14) (by decide) (by kernel_rfl) (by rfl) (fun K hK => ?_)
                    simp only [List.getElem_toArray, List.getElem_cons_zero, List.getElem_cons_succ, Act.put, List.setIfInBounds_toArray, List.set_cons_zero, List.set_cons_succ] at hK ⊢
                    go_simp
                    refine hK.out _ _ ?_
                    clear hK K k0 k1_ f0 f1
                    rw [← set_two hw.P9]
                    refine Inv.done (by kernel_rfl) (NoPanic.normal ?_)
                    have O9 := Lib.hid (hw.put9 RX)
                    clear hd hw RX e65 eT
                    generalize wx.setRow b9 #[.slice y1 m1 d1, .slice y2 m2 d2] = wT at *
                    go_wp2_with fail
                    go_roundw
                    case rel => exact ⟨j + 1, jj, _, _, _, _, _, _, _, _, _, _, _, _, by omega, by omega, by go_num, O9⟩
                    case measure => simp [intOf]; omega
                  · obtain ⟨y1, m1, d1, y2, m2, d2, e65, RX⟩ : ∃ a n c a' n' c', (σ 65) = .agg #[.slice a n c, .slice a' n' c'] ∧ Rc wx (.slice a n c) (.slice a' n' c') (inl (L.drop jj)) (fun _ => false) := hd 11 (some 65) (by kernel_rfl) (by decide) (by decide) (by rfl)
                    have HT : ∃ a n c a' n' c' bz, (σ 54) = .tuple #[.agg #[.slice a n c, .slice a' n' c'], .bool bz, .int .i64 0] ∧ Rc wx (.slice a n c) (.slice a' n' c') (inl (L.drop jj)) (fun _ => false) := hd 10 (some 54) (by kernel_rfl) (by decide) (by decide) (by rfl)
                    obtain ⟨z1, z2, z3, z4, z5, z6, bz, eT, _⟩ := HT
                    simp only [e65, eT]
                    refine Inv.take (i := 12) (v := .bool bz) (by decide) rfl (by kernel_rfl) (by kernel_rfl) (by kernel_rfl) (fun _ _ _ h => h) (by rfl) (fun w' => ?_) ?_
                    · simp only [List.getElem_toArray, List.getElem_cons_zero, List.getElem_cons_succ]
                      go_simp
                    try simp only [Act.put, List.setIfInBounds_toArray, List.set_cons_zero, List.set_cons_succ]
                    obtain ⟨k0, k1_⟩ := Spn.c2 hw.P9
                    have f0 := frozen_of_row wx b9 0 _ _ hw.P9
                    have f1 := frozen_of_row wx b9 1 _ _ hw.P9
                    refine Inv.one (i := 14) (by decide) (by kernel_rfl) (by rfl) (fun K hK => ?_)
                    simp only [List.getElem_toArray, List.getElem_cons_zero, List.getElem_cons_succ, Act.put, List.setIfInBounds_toArray, List.set_cons_zero, List.set_cons_succ] at hK ⊢
                    go_simp
                    refine hK.out _ _ ?_
                    clear hK K k0 k1_ f0 f1
                    rw [← set_two hw.P9]
                    refine Inv.done (by kernel_rfl) (NoPanic.normal ?_)
                    have O9 := Lib.hid (hw.put9 RX)
                    clear hd hw RX e65 eT
                    generalize wx.setRow b9 #[.slice y1 m1 d1, .slice y2 m2 d2] = wT at *
                    go_wp2_with fail
                    go_roundw
                    case rel => exact ⟨j + 1, jj, _, _, _, _, _, _, _, _, _, _, _, _, by omega, by omega, by go_num, O9⟩
                    case measure => simp [intOf]; omega
                  · obtain ⟨y1, m1, d1, y2, m2, d2, e65, RX⟩ : ∃ a n c a' n' c', (σ 65) = .agg #[.slice a n c, .slice a' n' c'] ∧ Rc wx (.slice a n c) (.slice a' n' c') (inl (L.drop jj)) (fun _ => false) := hd 11 (some 65) (by kernel_rfl) (by decide) (by decide) (by rfl)
                    have HT : ∃ a n c a' n' c' bz, (σ 54) = .tuple #[.agg #[.slice a n c, .slice a' n' c'], .bool bz, .int .i64 0] ∧ Rc wx (.slice a n c) (.slice a' n' c') (inl (L.drop jj)) (fun _ => false) := hd 10 (some 54) (by kernel_rfl) (by decide) (by decide) (by rfl)
                    obtain ⟨z1, z2, z3, z4, z5, z6, bz, eT, _⟩ := HT
                    simp only [e65, eT]
                    refine Inv.take (i := 13) (v := .int .i64 0) (by decide) rfl (by kernel_rfl) (by kernel_rfl) (by kernel_rfl) (fun _ _ _ h => h) (by rfl) (fun w' => ?_) ?_
                    · simp only [List.getElem_toArray, List.getElem_cons_zero, List.getElem_cons_succ]
                      go_simp
                    try simp only [Act.put, List.setIfInBounds_toArray, List.set_cons_zero, List.set_cons_succ]
                    obtain ⟨k0, k1_⟩ := Spn.c2 hw.P9
                    have f0 := frozen_of_row wx b9 0 _ _ hw.P9
                    have f1 := frozen_of_row wx b9 1 _ _ hw.P9
                    refine Inv.one (i := 14) (by decide) (by kernel_rfl) (by rfl) (fun K hK => ?_)
                    simp only [List.getElem_toArray, List.getElem_cons_zero, List.getElem_cons_succ, Act.put, List.setIfInBounds_toArray, List.set_cons_zero, List.set_cons_succ] at hK ⊢
                    go_simp
                    refine hK.out _ _ ?_
                    clear hK K k0 k1_ f0 f1
                    rw [← set_two hw.P9]
                    refine Inv.done (by kernel_rfl) (NoPanic.normal ?_)
                    have O9 := Lib.hid (hw.put9 RX)
                    clear hd hw RX e65 eT
                    generalize wx.setRow b9 #[.slice y1 m1 d1, .slice y2 m2 d2] = wT at *
                    go_wp2_with fail
                    go_roundw
                    case rel => exact ⟨j + 1, jj, _, _, _, _, _, _, _, _, _, _, _, _, by omega, by omega, by go_num, O9⟩
                    case measure => simp [intOf]; omega
                  · obtain ⟨y1, m1, d1, y2, m2, d2, e65, RX⟩ : ∃ a n c a' n' c', (σ 65) = .agg #[.slice a n c, .slice a' n' c'] ∧ Rc wx (.slice a n c) (.slice a' n' c') (inl (L.drop jj)) (fun _ => false) := hd 11 (some 65) (by kernel_rfl) (by decide) (by decide) (by rfl)
                    have HT : ∃ a n c a' n' c' bz, (σ 54) = .tuple #[.agg #[.slice a n c, .slice a' n' c'], .bool bz, .int .i64 0] ∧ Rc wx (.slice a n c) (.slice a' n' c') (inl (L.drop jj)) (fun _ => false) := hd 10 (some 54) (by kernel_rfl) (by decide) (by decide) (by rfl)
                    obtain ⟨z1, z2, z3, z4, z5, z6, bz, eT, _⟩ := HT
                    simp only [e65, eT]
                    obtain ⟨k0, k1_⟩ := Spn.c2 hw.P9
                    have f0 := frozen_of_row wx b9 0 _ _ hw.P9
                    have f1 := frozen_of_row wx b9 1 _ _ hw.P9
                    refine Inv.one (i := 14) (by decide) (by kernel_rfl) (by rfl) (fun K hK => ?_)
                    simp only [List.getElem_toArray, List.getElem_cons_zero, List.getElem_cons_succ, Act.put, List.setIfInBounds_toArray, List.set_cons_zero, List.set_cons_succ] at hK ⊢
                    go_simp
                    refine hK.out _ _ ?_
                    clear hK K k0 k1_ f0 f1
                    rw [← set_two hw.P9]
                    refine Inv.done (by kernel_rfl) (NoPanic.normal ?_)
                    have O9 := Lib.hid (hw.put9 RX)
                    clear hd hw RX e65 eT
                    generalize wx.setRow b9 #[.slice y1 m1 d1, .slice y2 m2 d2] = wT at *
                    go_wp2_with fail
                    go_roundw
                    case rel => exact ⟨j + 1, jj, _, _, _, _, _, _, _, _, _, _, _, _, by omega, by omega, by go_num, O9⟩
                    case measure => simp [intOf]; omega
              · obtain ⟨y1, m1, d1, y2, m2, d2, e51, RX⟩ : ∃ a n c a' n' c', (σ 51) = .agg #[.slice a n c, .slice a' n' c'] ∧ Rc wx (.slice a n c) (.slice a' n' c') (inl (L.take (j + 1))) (fun _ => false) := hd 7 (some 51) (by kernel_rfl) (by decide) (by decide) (by rfl)
                have HT : ∃ a n c a' n' c' bz, (σ 44) = .tuple #[.agg #[.slice a n c, .slice a' n' c'], .bool bz, .int .i64 0] ∧ Rc wx (.slice a n c) (.slice a' n' c') (inl (L.take (j + 1))) (fun _ => false) := hd 6 (some 44) (by kernel_rfl) (by decide) (by decide) (by rfl)
                obtain ⟨z1, z2, z3, z4, z5, z6, bz, eT, _⟩ := HT
                simp only [e51, eT]
                obtain ⟨k0, k1_⟩ := Spn.c2 hw.P8
                have f0 := frozen_of_row wx b8 0 _ _ hw.P8
                have f1 := frozen_of_row wx b8 1 _ _ hw.P8
                refine Inv.one (i := 10) (by decide) (by kernel_rfl) (by rfl) (fun K hK => ?_)
                simp only [List.getElem_toArray, List.getElem_cons_zero, List.getElem_cons_succ, Act.put, List.setIfInBounds_toArray, List.set_cons_zero, List.set_cons_succ] at hK ⊢
                go_simp
                refine hK.out _ _ ?_
                clear hK K k0 k1_ f0 f1
                rw [← set_two hw.P8]
                refine Inv.done (by kernel_rfl) (NoPanic.normal ?_)
                have O9 := Lib.hid (hw.put8 RX)
                clear hd hw RX e51 eT
                generalize wx.setRow b8 #[.slice y1 m1 d1, .slice y2 m2 d2] = wT at *
                go_upto_region 14 with fail
                have hw0 : OB wL b8 b9 (.slice y1 m1 d1) (.slice y2 m2 d2) (.slice a9 n9 m9) (.slice c9 k9 l9) (inl (L.take (j + 1))) (fun _ => false) (inl (L.drop (jj + 1))) (fun _ => false) wT.drew := O9.out.below (Below.refl _ _).drew
                clear O9
                refine wp_region_noPanic ?_
                refine wp_region_any (by kernel_rfl) ?_
                refine Inv.wpAny_inv2 (fun k => k == 14) 12 13 [55, 56, 57, 58, 59, 60, 61, 62, 63, 64, 54, 65, 66, 67] (fun w' => OB wL b8 b9 (.slice y1 m1 d1) (.slice y2 m2 d2) (.slice a9 n9 m9) (.slice c9 k9 l9) (inl (L.take (j + 1))) (fun _ => false) (inl (L.drop (jj + 1))) (fun _ => false) w') (fun _ w1 w2 => Below w1.heap.size w1 w2) (fun k => ([fun v_ w_ => v_ = .agg #[.slice a9 n9 m9, .slice c9 k9 l9], fun v_ w_ => v_ = .slice (some ⟨g, 0, none⟩) n sc, fun v_ w_ => v_ = .slice (some ⟨g, 0, none⟩) n sc, fun v_ w_ => v_ = .int .i64 (n : Int), fun v_ w_ => v_ = .int .i64 ((n : Int) - 1), fun v_ w_ => v_ = .int .i64 (j : Int), fun v_ w_ => v_ = .int .i64 (jj : Int), fun v_ w_ => v_ = .pointer (some ⟨g, jj, none⟩), fun v_ w_ => v_ = .int .i64 q2, fun v_ w_ => ∃ a n c a' n' c' bz, v_ = .tuple #[.agg #[.slice a n c, .slice a' n' c'], .bool bz, .int .i64 0] ∧ Rc w_ (.slice a n c) (.slice a' n' c') (inl (L.drop jj)) (fun _ => false), fun v_ w_ => ∃ a n c a' n' c' bz, v_ = .tuple #[.agg #[.slice a n c, .slice a' n' c'], .bool bz, .int .i64 0] ∧ Rc w_ (.slice a n c) (.slice a' n' c') (inl (L.drop jj)) (fun _ => false), fun v_ w_ => ∃ a n c a' n' c', v_ = .agg #[.slice a n c, .slice a' n' c'] ∧ Rc w_ (.slice a n c) (.slice a' n' c') (inl (L.drop jj)) (fun _ => false), fun v_ w_ => True, fun v_ w_ => True, fun v_ w_ => True] : List (Value → World → Prop)).getD k (fun _ _ => True)) _ (fun σ => by simp only [Inv.putAll, List.foldl_cons, List.foldl_nil, Act.put, List.setIfInBounds_toArray, List.set_cons_zero, List.set_cons_succ]; rfl) (by kernel_rfl) (by kernel_rfl) (by decide) ?_ hw0 ?_ ?_ (fun b1 b2 => cond b1 (cond b2 1 2) (cond b2 2 3)) (fun b1 b2 => #[true, true, true, true, true, true, true, true, true, true, true, true, b1, b2, false]) (by intro b1 b2; cases b1 <;> cases b2 <;> kernel_rfl) (by intro b1 b2; cases b1 <;> cases b2 <;> kernel_rfl) (by exact ⟨rfl, rfl⟩) ?_
                · intro j k v w1 w2 hjk hv hr
                  rcases k with _ | k
                  · exact hv
                  rcases k with _ | k
                  · exact hv
                  rcases k with _ | k
                  · exact hv
                  rcases k with _ | k
                  · exact hv
                  rcases k with _ | k
                  · exact hv
                  rcases k with _ | k
                  · exact hv
                  rcases k with _ | k
                  · exact hv
                  rcases k with _ | k
                  · exact hv
                  rcases k with _ | k
                  · exact hv
                  rcases k with _ | k
                  · exact by obtain ⟨a, n_, c, a', n', c', bz, e, h⟩ := hv; exact ⟨a, n_, c, a', n', c', bz, e, h.keep hr⟩
                  rcases k with _ | k
                  · exact by obtain ⟨a, n_, c, a', n', c', bz, e, h⟩ := hv; exact ⟨a, n_, c, a', n', c', bz, e, h.keep hr⟩
                  rcases k with _ | k
                  · exact by obtain ⟨a, n_, c, a', n', c', e, h⟩ := hv; exact ⟨a, n_, c, a', n', c', e, h.keep hr⟩
                  rcases k with _ | k
                  · exact hv
                  rcases k with _ | k
                  · exact hv
                  rcases k with _ | k
                  · exact hv
                  · exact hv
                · intro k t hl hd
                  rcases k with _ | k
                  · exact absurd hl (by decide +kernel)
                  rcases k with _ | k
                  · exact absurd hl (by decide +kernel)
                  rcases k with _ | k
                  · exact absurd hl (by decide +kernel)
                  rcases k with _ | k
                  · exact absurd hl (by decide +kernel)
                  rcases k with _ | k
                  · exact absurd hl (by decide +kernel)
                  rcases k with _ | k
                  · exact absurd hl (by decide +kernel)
                  rcases k with _ | k
                  · exact absurd hl (by decide +kernel)
                  rcases k with _ | k
                  · exact absurd hl (by decide +kernel)
                  rcases k with _ | k
                  · exact absurd hl (by decide +kernel)
                  rcases k with _ | k
                  · exact absurd hl (by decide +kernel)
                  rcases k with _ | k
                  · exact absurd hl (by decide +kernel)
                  rcases k with _ | k
                  · exact absurd hl (by decide +kernel)
                  rcases k with _ | k
                  · exact absurd hl (by decide +kernel)
                  rcases k with _ | k
                  · exact absurd hl (by decide +kernel)
                  rcases k with _ | k
                  · exact absurd hl (by decide +kernel)
                  · simp at hd
                · show Inv.Steps _ _ _ _ _ _ _ _ [0, 1, 2, 3, 4, 5, 6, 7, 8, 9, 10, 11, 12, 13]
                  refine Inv.Steps.go (by decide) (by rfl) (fun σ wx hw hd K hK => ?_) ?_
                  · simp only [List.getElem_toArray, List.getElem_cons_zero, List.getElem_cons_succ, Act.put, List.setIfInBounds_toArray, List.set_cons_zero, List.set_cons_succ] at hK ⊢
                    refine wp_load_row 30 (.tmp 9) rfl b9 rfl 30 #[.slice a9 n9 m9, .slice c9 k9 l9] (0, 0) _ hw.P9 rfl rfl rfl ?_
                    simp only [Act.put, List.setIfInBounds_toArray, List.set_cons_zero, List.set_cons_succ]
                    exact hK.out _ _ hw (Below.refl _ _) (rfl)
                  refine Inv.Steps.go (by decide) (by rfl) (fun σ wx hw hd K hK => ?_) ?_
                  · simp only [List.getElem_toArray, List.getElem_cons_zero, List.getElem_cons_succ, Act.put, List.setIfInBounds_toArray, List.set_cons_zero, List.set_cons_succ] at hK ⊢
                    go_simp
                    exact hK.out _ _ hw (Below.refl _ _) (rfl)
                  refine Inv.Steps.go (by decide) (by rfl) (fun σ wx hw hd K hK => ?_) ?_
                  · simp only [List.getElem_toArray, List.getElem_cons_zero, List.getElem_cons_succ, Act.put, List.setIfInBounds_toArray, List.set_cons_zero, List.set_cons_succ] at hK ⊢
                    go_simp
                    exact hK.out _ _ hw (Below.refl _ _) (rfl)
                  refine Inv.Steps.go (by decide) (by rfl) (fun σ wx hw hd K hK => ?_) ?_
                  · obtain e57 : (σ 57) = .slice (some ⟨g, 0, none⟩) n sc := hd 2 (some 57) (by kernel_rfl) (by rfl)
                    simp only [List.getElem_toArray, List.getElem_cons_zero, List.getElem_cons_succ, Act.put, List.setIfInBounds_toArray, List.set_cons_zero, List.set_cons_succ, e57] at hK ⊢
                    go_simp
                    exact hK.out _ _ hw (Below.refl _ _) (rfl)
                  refine Inv.Steps.go (by decide) (by rfl) (fun σ wx hw hd K hK => ?_) ?_
                  · obtain e58 : (σ 58) = .int .i64 (n : Int) := hd 3 (some 58) (by kernel_rfl) (by rfl)
                    simp only [List.getElem_toArray, List.getElem_cons_zero, List.getElem_cons_succ, Act.put, List.setIfInBounds_toArray, List.set_cons_zero, List.set_cons_succ, e58] at hK ⊢
                    go_simp
                    exact hK.out _ _ hw (Below.refl _ _) (congrArg (Value.int .i64) (IntWalk.i64_in _ (by omega)))
                  refine Inv.Steps.go (by decide) (by rfl) (fun σ wx hw hd K hK => ?_) ?_
                  · simp only [List.getElem_toArray, List.getElem_cons_zero, List.getElem_cons_succ, Act.put, List.setIfInBounds_toArray, List.set_cons_zero, List.set_cons_succ] at hK ⊢
                    go_simp
                    exact hK.out _ _ hw (Below.refl _ _) (rfl)
                  refine Inv.Steps.go (by decide) (by rfl) (fun σ wx hw hd K hK => ?_) ?_
                  · obtain e59 : (σ 59) = .int .i64 ((n : Int) - 1) := hd 4 (some 59) (by kernel_rfl) (by rfl)
                    obtain e60 : (σ 60) = .int .i64 (j : Int) := hd 5 (some 60) (by kernel_rfl) (by rfl)
                    simp only [List.getElem_toArray, List.getElem_cons_zero, List.getElem_cons_succ, Act.put, List.setIfInBounds_toArray, List.set_cons_zero, List.set_cons_succ, e59, e60] at hK ⊢
                    go_simp
                    try simp only [hjj.out] at hK ⊢
                    exact hK.out _ _ hw (Below.refl _ _) (congrArg (Value.int .i64) (IntWalk.i64_in _ (by omega)))
                  refine Inv.Steps.go (by decide) (by rfl) (fun σ wx hw hd K hK => ?_) ?_
                  · obtain e56 : (σ 56) = .slice (some ⟨g, 0, none⟩) n sc := hd 1 (some 56) (by kernel_rfl) (by rfl)
                    obtain e61 : (σ 61) = .int .i64 (jj : Int) := hd 6 (some 61) (by kernel_rfl) (by rfl)
                    simp only [List.getElem_toArray, List.getElem_cons_zero, List.getElem_cons_succ, Act.put, List.setIfInBounds_toArray, List.set_cons_zero, List.set_cons_succ, e56, e61] at hK ⊢
                    go_simp
                    exact hK.out _ _ hw (Below.refl _ _) (rfl)
                  refine Inv.Steps.go (by decide) (by rfl) (fun σ wx hw hd K hK => ?_) ?_
                  · obtain e62 : (σ 62) = .pointer (some ⟨g, jj, none⟩) := hd 7 (some 62) (by kernel_rfl) (by rfl)
                    simp only [List.getElem_toArray, List.getElem_cons_zero, List.getElem_cons_succ, Act.put, List.setIfInBounds_toArray, List.set_cons_zero, List.set_cons_succ, e62] at hK ⊢
                    have zc := CE2.out _ hw.B
                    go_simp
                    exact hK.out _ _ hw (Below.refl _ _) (rfl)
                  refine Inv.Steps.go (by decide) (by rfl) (fun σ wx hw hd K hK => ?_) ?_
                  · obtain e55 : (σ 55) = .agg #[.slice a9 n9 m9, .slice c9 k9 l9] := hd 0 (some 55) (by kernel_rfl) (by rfl)
                    obtain e63 : (σ 63) = .int .i64 q2 := hd 8 (some 63) (by kernel_rfl) (by rfl)
                    simp only [List.getElem_toArray, List.getElem_cons_zero, List.getElem_cons_succ, Act.put, List.setIfInBounds_toArray, List.set_cons_zero, List.set_cons_succ, e55, e63] at hK ⊢
                    go_simp
                    go_at_call 14
                    refine (accept_any hw.Rb q2 (by omega) (by omega)).mono ?_
                    rintro e w1 ⟨⟨vg, vl, rfl, R3⟩, hb⟩
                    dsimp only
                    replace R3 := Rc.ext (f' := (inl (L.drop jj))) (g' := fun _ => false) R3 (fun x => inl_drop hq2.out x) (fun x => rfl)
                    obtain ⟨xa, xn, xc, ya, yn, yc, rfl, rfl⟩ := Rc.form R3
                    exact hK.out _ _ (hw.below hb) hb (⟨_, _, _, _, _, _, _, rfl, R3⟩)
                  refine Inv.Steps.go (by decide) (by rfl) (fun σ wx hw hd K hK => ?_) ?_
                  · obtain ⟨y1, m1, d1, y2, m2, d2, bz, e64, RX⟩ : ∃ a n c a' n' c' bz, (σ 64) = .tuple #[.agg #[.slice a n c, .slice a' n' c'], .bool bz, .int .i64 0] ∧ Rc wx (.slice a n c) (.slice a' n' c') (inl (L.drop jj)) (fun _ => false) := hd 9 (some 64) (by kernel_rfl) (by rfl)
                    simp only [List.getElem_toArray, List.getElem_cons_zero, List.getElem_cons_succ, Act.put, List.setIfInBounds_toArray, List.set_cons_zero, List.set_cons_succ, e64] at hK ⊢
                    go_simp
                    exact hK.out _ _ hw (Below.refl _ _) (⟨_, _, _, _, _, _, _, rfl, RX⟩)
                  refine Inv.Steps.go (by decide) (by rfl) (fun σ wx hw hd K hK => ?_) ?_
                  · obtain ⟨y1, m1, d1, y2, m2, d2, bz, e54, RX⟩ : ∃ a n c a' n' c' bz, (σ 54) = .tuple #[.agg #[.slice a n c, .slice a' n' c'], .bool bz, .int .i64 0] ∧ Rc wx (.slice a n c) (.slice a' n' c') (inl (L.drop jj)) (fun _ => false) := hd 10 (some 54) (by kernel_rfl) (by rfl)
                    simp only [List.getElem_toArray, List.getElem_cons_zero, List.getElem_cons_succ, Act.put, List.setIfInBounds_toArray, List.set_cons_zero, List.set_cons_succ, e54] at hK ⊢
                    go_simp
                    exact hK.out _ _ hw (Below.refl _ _) (⟨_, _, _, _, _, _, rfl, RX⟩)
                  refine Inv.Steps.go (by decide) (by rfl) (fun σ wx hw hd K hK => ?_) ?_
                  · obtain ⟨y1, m1, d1, y2, m2, d2, bz, e54, RX⟩ : ∃ a n c a' n' c' bz, (σ 54) = .tuple #[.agg #[.slice a n c, .slice a' n' c'], .bool bz, .int .i64 0] ∧ Rc wx (.slice a n c) (.slice a' n' c') (inl (L.drop jj)) (fun _ => false) := hd 10 (some 54) (by kernel_rfl) (by rfl)
                    simp only [List.getElem_toArray, List.getElem_cons_zero, List.getElem_cons_succ, Act.put, List.setIfInBounds_toArray, List.set_cons_zero, List.set_cons_succ, e54] at hK ⊢
                    go_simp
                    exact hK.out _ _ hw (Below.refl _ _) (trivial)
                  refine Inv.Steps.go (by decide) (by rfl) (fun σ wx hw hd K hK => ?_) ?_
                  · obtain ⟨y1, m1, d1, y2, m2, d2, bz, e54, RX⟩ : ∃ a n c a' n' c' bz, (σ 54) = .tuple #[.agg #[.slice a n c, .slice a' n' c'], .bool bz, .int .i64 0] ∧ Rc wx (.slice a n c) (.slice a' n' c') (inl (L.drop jj)) (fun _ => false) := hd 10 (some 54) (by kernel_rfl) (by rfl)
                    simp only [List.getElem_toArray, List.getElem_cons_zero, List.getElem_cons_succ, Act.put, List.setIfInBounds_toArray, List.set_cons_zero, List.set_cons_succ, e54] at hK ⊢
                    go_simp
                    exact hK.out _ _ hw (Below.refl _ _) (trivial)
                  exact Inv.Steps.nil
                · intro b1 b2 σ wx hw hd
                  cases b1 <;> cases b2
                  · obtain ⟨y1, m1, d1, y2, m2, d2, e65, RX⟩ : ∃ a n c a' n' c', (σ 65) = .agg #[.slice a n c, .slice a' n' c'] ∧ Rc wx (.slice a n c) (.slice a' n' c') (inl (L.drop jj)) (fun _ => false) := hd 11 (some 65) (by kernel_rfl) (by decide) (by decide) (by rfl)
                    have HT : ∃ a n c a' n' c' bz, (σ 54) = .tuple #[.agg #[.slice a n c, .slice a' n' c'], .bool bz, .int .i64 0] ∧ Rc wx (.slice a n c) (.slice a' n' c') (inl (L.drop jj)) (fun _ => false) := hd 10 (some 54) (by kernel_rfl) (by decide) (by decide) (by rfl)
                    obtain ⟨z1, z2, z3, z4, z5, z6, bz, eT, _⟩ := HT
                    simp only [e65, eT]
                    refine Inv.take (i := 12) (v := .bool bz) (by decide) rfl (by kernel_rfl) (by kernel_rfl) (by kernel_rfl) (fun _ _ _ h => h) (by rfl) (fun w' => ?_) ?_
                    · simp only [List.getElem_toArray, List.getElem_cons_zero, List.getElem_cons_succ]
                      go_simp
                    try simp only [Act.put, List.setIfInBounds_toArray, List.set_cons_zero, List.set_cons_succ]
                    refine Inv.take (i := 13) (v := .int .i64 0) (by decide) rfl (by kernel_rfl) (by kernel_rfl) (by kernel_rfl) (fun _ _ _ h => h) (by rfl) (fun w' => ?_) ?_
                    · simp only [List.getElem_toArray, List.getElem_cons_zero, List.getElem_cons_succ]
                      go_simp
                    try simp only [Act.put, List.setIfInBounds_toArray, List.set_cons_zero, List.set_cons_succ]
                    obtain ⟨k0, k1_⟩ := Spn.c2 hw.P9
                    have f0 := frozen_of_row wx b9 0 _ _ hw.P9
                    have f1 := frozen_of_row wx b9 1 _ _ hw.P9
                    refine Inv.one (i := 14) (by decide) (by kernel_rfl) (by rfl) (fun K hK => ?_)
                    simp only [List.getElem_toArray, List.getElem_cons_zero, List.getElem_cons_succ, Act.put, List.setIfInBounds_toArray, List.set_cons_zero, List.set_cons_succ] at hK ⊢
                    go_simp
                    refine hK.out _ _ ?_
                    clear hK K k0 k1_ f0 f1
                    rw [← set_two hw.P9]
                    refine Inv.done (by kernel_rfl) (NoPanic.normal ?_)
                    have O9 := Lib.hid (hw.put9 RX)
                    clear hd hw RX e65 eT
                    generalize wx.setRow b9 #[.slice y1 m1 d1, .slice y2 m2 d2] = wT at *
                    go_wp2_with fail
                    go_roundw
                    case rel => exact ⟨j + 1, jj, _, _, _, _, _, _, _, _, _, _, _, _, by omega, by omega, by go_num, O9⟩
                    case measure => simp [intOf]; omega
                  · obtain ⟨y1, m1, d1, y2, m2, d2, e65, RX⟩ : ∃ a n c a' n' c', (σ 65) = .agg #[.slice a n c, .slice a' n' c'] ∧ Rc wx (.slice a n c) (.slice a' n' c') (inl (L.drop jj)) (fun _ => false) := hd 11 (some 65) (by kernel_rfl) (by decide) (by decide) (by rfl)
                    have HT : ∃ a n c a' n' c' bz, (σ 54) = .tuple #[.agg #[.slice a n c, .slice a' n' c'], .bool bz, .int .i64 0] ∧ Rc wx (.slice a n c) (.slice a' n' c') (inl (L.drop jj)) (fun _ => false) := hd 10 (some 54) (by kernel_rfl) (by decide) (by decide) (by rfl)
                    obtain ⟨z1, z2, z3, z4, z5, z6, bz, eT, _⟩ := HT
                    simp only [e65, eT]
                    refine Inv.take (i := 12) (v := .bool bz) (by decide) rfl (by kernel_rfl) (by kernel_rfl) (by kernel_rfl) (fun _ _ _ h => h) (by rfl) (fun w' => ?_) ?_
                    · simp only [List.getElem_toArray, List.getElem_cons_zero, List.getElem_cons_succ]
                      go_simp
                    try simp only [Act.put, List.setIfInBounds_toArray, List.set_cons_zero, List.set_cons_succ]
                    obtain ⟨k0, k1_⟩ := Spn.c2 hw.P9
                    have f0 := frozen_of_row wx b9 0 _ _ hw.P9
                    have f1 := frozen_of_row wx b9 1 _ _ hw.P9
                    refine Inv.one (i := 14) (by decide) (by kernel_rfl) (by rfl) (fun K hK => ?_)
                    simp only [List.getElem_toArray, List.getElem_cons_zero, List.getElem_cons_succ, Act.put, List.setIfInBounds_toArray, List.set_cons_zero, List.set_cons_succ] at hK ⊢
                    go_simp
                    refine hK.out _ _ ?_
                    clear hK K k0 k1_ f0 f1
                    rw [← set_two hw.P9]
                    refine Inv.done (by kernel_rfl) (NoPanic.normal ?_)
                    have O9 := Lib.hid (hw.put9 RX)
                    clear hd hw RX e65 eT
                    generalize wx.setRow b9 #[.slice y1 m1 d1, .slice y2 m2 d2] = wT at *
                    go_wp2_with fail
                    go_roundw
                    case rel => exact ⟨j + 1, jj, _, _, _, _, _, _, _, _, _, _, _, _, by omega, by omega, by go_num, O9⟩
                    case measure => simp [intOf]; omega
                  · obtain ⟨y1, m1, d1, y2, m2, d2, e65, RX⟩ : ∃ a n c a' n' c', (σ 65) = .agg #[.slice a n c, .slice a' n' c'] ∧ Rc wx (.slice a n c) (.slice a' n' c') (inl (L.drop jj)) (fun _ => false) := hd 11 (some 65) (by kernel_rfl) (by decide) (by decide) (by rfl)
                    have HT : ∃ a n c a' n' c' bz, (σ 54) = .tuple #[.agg #[.slice a n c, .slice a' n' c'], .bool bz, .int .i64 0] ∧ Rc wx (.slice a n c) (.slice a' n' c') (inl (L.drop jj)) (fun _ => false) := hd 10 (some 54) (by kernel_rfl) (by decide) (by decide) (by rfl)
                    obtain ⟨z1, z2, z3, z4, z5, z6, bz, eT, _⟩ := HT
                    simp only [e65, eT]
                    refine Inv.take (i := 13) (v := .int .i64 0) (by decide) rfl (by kernel_rfl) (by kernel_rfl) (by kernel_rfl) (fun _ _ _ h => h) (by rfl) (fun w' => ?_) ?_
                    · simp only [List.getElem_toArray, List.getElem_cons_zero, List.getElem_cons_succ]
                      go_simp
                    try simp only [Act.put, List.setIfInBounds_toArray, List.set_cons_zero, List.set_cons_succ]
                    obtain ⟨k0, k1_⟩ := Spn.c2 hw.P9
                    have f0 := frozen_of_row wx b9 0 _ _ hw.P9
                    have f1 := frozen_of_row wx b9 1 _ _ hw.P9
                    refine Inv.one (i := 14) (by decide) (by kernel_rfl) (by rfl) (fun K hK => ?_)
                    simp only [List.getElem_toArray, List.getElem_cons_zero, List.getElem_cons_succ, Act.put, List.setIfInBounds_toArray, List.set_cons_zero, List.set_cons_succ] at hK ⊢
                    go_simp
                    refine hK.out _ _ ?_
                    clear hK K k0 k1_ f0 f1
                    rw [← set_two hw.P9]
                    refine Inv.done (by kernel_rfl) (NoPanic.normal ?_)
                    have O9 := Lib.hid (hw.put9 RX)
                    clear hd hw RX e65 eT
                    generalize wx.setRow b9 #[.slice y1 m1 d1, .slice y2 m2 d2] = wT at *
                    go_wp2_with fail
                    go_roundw
                    case rel => exact ⟨j + 1, jj, _, _, _, _, _, _, _, _, _, _, _, _, by omega, by omega, by go_num, O9⟩
                    case measure => simp [intOf]; omega
                  · obtain ⟨y1, m1, d1, y2, m2, d2, e65, RX⟩ : ∃ a n c a' n' c', (σ 65) = .agg #[.slice a n c, .slice a' n' c'] ∧ Rc wx (.slice a n c) (.slice a' n' c') (inl (L.drop jj)) (fun _ => false) := hd 11 (some 65) (by kernel_rfl) (by decide) (by decide) (by rfl)
                    have HT : ∃ a n c a' n' c' bz, (σ 54) = .tuple #[.agg #[.slice a n c, .slice a' n' c'], .bool bz, .int .i64 0] ∧ Rc wx (.slice a n c) (.slice a' n' c') (inl (L.drop jj)) (fun _ => false) := hd 10 (some 54) (by kernel_rfl) (by decide) (by decide) (by rfl)
                    obtain ⟨z1, z2, z3, z4, z5, z6, bz, eT, _⟩ := HT
                    simp only [e65, eT]
                    obtain ⟨k0, k1_⟩ := Spn.c2 hw.P9
                    have f0 := frozen_of_row wx b9 0 _ _ hw.P9
                    have f1 := frozen_of_row wx b9 1 _ _ hw.P9
                    refine Inv.one (i := 14) (by decide) (by kernel_rfl) (by rfl) (fun K hK => ?_)
                    simp only [List.getElem_toArray, List.getElem_cons_zero, List.getElem_cons_succ, Act.put, List.setIfInBounds_toArray, List.set_cons_zero, List.set_cons_succ] at hK ⊢
                    go_simp
                    refine hK.out _ _ ?_
                    clear hK K k0 k1_ f0 f1
                    rw [← set_two hw.P9]
                    refine Inv.done (by kernel_rfl) (NoPanic.normal ?_)
                    have O9 := Lib.hid (hw.put9 RX)
                    clear hd hw RX e65 eT
                    generalize wx.setRow b9 #[.slice y1 m1 d1, .slice y2 m2 d2] = wT at *
                    go_wp2_with fail
                    go_roundw
                    case rel => exact ⟨j + 1, jj, _, _, _, _, _, _, _, _, _, _, _, _, by omega, by omega, by go_num, O9⟩
                    case measure => simp [intOf]; omega
          · obtain rfl : j = n := by omega
            obtain rfl : j2 = 0 := by omega
            have O9 : Hid (OB wL b8 b9 (.slice a8 n8 m8) (.slice c8 k8 l8) (.slice a9 n9 m9) (.slice c9 k9 l9) (inl L) (fun _ => false) (inl L) (fun _ => false) wr) := Lib.hid (by
              have e1 : L.take j = L := by rw [hn.out, List.take_length]
              have h := O.out
              rw [e1, List.drop_zero] at h; exact h)
            clear O
            go_upto_region 16 with fail
            obtain ⟨k0, k1_⟩ := Spn.c2 O9.out.P9
            go_wp2_with fail
            refine (lose_any O9.out.Rb 5 (by omega) (by omega)).mono ?_
            rintro e w5 ⟨⟨vg, vl, rfl, R3⟩, hb⟩
            obtain ⟨y1, m1, d1, y2, m2, d2, rfl, rfl⟩ := Rc.form R3
            have O5 := Lib.hid (O9.out.below hb)
            replace R3 := Lib.hid R3
            clear hb k0 k1_ O9
            go_upto_region 17 with (first | ((with_reducible refine Mid.str 30 (.tmp 9) (.tmp 72) b9 30 #[.slice a9 n9 m9, .slice c9 k9 l9] #[.slice y1 m1 d1, .slice y2 m2 d2] O5.out.P9 ?_ ?_ ?_ ?_ ?_ ?_ ?_ ?_); (· rfl); (· rfl); (· first | rfl | simp [Act.eval]); (· first | rfl | simp [Act.eval]); (· kernel_rfl); (· rfl); (· simp [Value.oneCell'])) | fail)
            have O6 := Lib.hid (O5.out.put9 R3.out)
            obtain ⟨w6, hw6⟩ : ∃ w6, w6 = w5.setRow b9 #[.slice y1 m1 d1, .slice y2 m2 d2] := ⟨_, rfl⟩
            rw [← hw6] at O6 ⊢
            clear hw6 O5 R3
            obtain ⟨k0, k1_⟩ := Spn.c2 O6.out.P8
            go_wp2_with fail
            refine (lose_any O6.out.Ra 5 (by omega) (by omega)).mono ?_
            rintro e w7 ⟨⟨vg, vl, rfl, R3⟩, hb⟩
            obtain ⟨x1, s1, h1, x2, s2, h2, rfl, rfl⟩ := Rc.form R3
            have O7 := Lib.hid (O6.out.below hb)
            replace R3 := Lib.hid R3
            clear hb k0 k1_ O6
            go_upto_region 18 with (first | ((with_reducible refine Mid.str 30 (.tmp 8) (.tmp 77) b8 30 #[.slice a8 n8 m8, .slice c8 k8 l8] #[.slice x1 s1 h1, .slice x2 s2 h2] O7.out.P8 ?_ ?_ ?_ ?_ ?_ ?_ ?_ ?_); (· rfl); (· rfl); (· first | rfl | simp [Act.eval]); (· first | rfl | simp [Act.eval]); (· kernel_rfl); (· rfl); (· simp [Value.oneCell'])) | fail)
            have O8 := Lib.hid (O7.out.put8 R3.out)
            obtain ⟨w8, hw8⟩ : ∃ w8, w8 = w7.setRow b8 #[.slice x1 s1 h1, .slice x2 s2 h2] := ⟨_, rfl⟩
            rw [← hw8] at O8 ⊢
            clear hw8 O7 R3
            obtain ⟨k0, k1_⟩ := Spn.c2 O8.out.P8
            go_wp2_with fail
            refine (missing_any O8.out.Ra 18 (by omega) (by omega)).mono ?_
            rintro e w9 ⟨⟨v, t, he, hT, hS⟩, hb⟩
            subst he
            have O10 := Lib.hid (O8.out.below hb)
            have HT := Lib.hid hT
            have HS := Lib.hid hS
            obtain ⟨va, vn, vc, rfl, _⟩ := Sv.form hS
            clear hb k0 k1_ O8 hT hS
            obtain ⟨k0, k1_⟩ := Spn.c2 O10.out.P8
            go_wp2_with fail
            refine (request_any O10.out.Ra 18 (a1 % 8) (by omega) (by omega) (by omega) (by omega)).mono ?_
            rintro e w10 ⟨⟨v, t2, N, he, hT2, hN, hO⟩, hb⟩
            subst he
            obtain rfl := top_unique hT2 HT.out
            obtain ⟨M, hM, hMI, _, hMn⟩ := HS.out
            obtain rfl := Is.unique hMI hN
            clear HT HS hT2 hN k0 k1_
            have O11 := Lib.hid (O10.out.below hb)
            have AL := Lib.hid (hM.keep hb)
            have q0 : 0 ≤ a1 % 8 := by omega
            obtain ⟨cF, iF, lF, eF⟩ := first_inside hMI hMn q0
            have lM := canon_short hMI.canon hMn
            obtain ⟨fa_, fc, rfl⟩ := own_len hO
            obtain ⟨F, hF⟩ : ∃ F, F = firstL M (a1 % 8) := ⟨_, rfl⟩
            rw [← hF] at hO cF iF lF eF ⊢
            obtain ⟨nf, hnf⟩ : ∃ nf, nf = F.length := ⟨_, rfl⟩
            rw [← hnf] at hO lF ⊢
            have SF := Lib.hid (its_of_own hO)
            have FG := Lib.hid (fun (j : Nat) (p : Int × Int) (hj : F[j]? = some p) => own_get (L := F) (n := nf) hO hj)
            obtain ⟨km, hkm⟩ : ∃ km, km = lenL M := ⟨_, rfl⟩
            obtain ⟨kf, hkf⟩ : ∃ kf, kf = lenL F := ⟨_, rfl⟩
            rw [← hkm, ← hkf] at eF
            have b1_ : (kf == min (a1 % 8) km) = true := by rw [eF]; exact beq_self_eq_true _
            have CF := Lib.hid cF
            have IF := Lib.hid iF
            have IM := Lib.hid hMn
            have HMI := Lib.hid hMI
            replace hF := Lib.hid hF
            replace hnf := Lib.hid hnf
            replace hkm := Lib.hid hkm
            replace hkf := Lib.hid hkf
            have B10 := Lib.hid (Below.refl w10.heap.size w10)
            have LF := Lib.hid fun (w' : World) (h' : Below w10.heap.size w10 w') => reflength_any (SF.out.keep h') CF.out IF.out (by rw [← hnf.out]; omega)
            have LM_ := Lib.hid fun (w' : World) (h' : Below w10.heap.size w10 w') => reflength_any (AL.out.keep h') HMI.out.canon IM.out (by omega)
            rw [← hkf.out] at LF
            rw [← hkm.out] at LM_
            clear hb hO hM hMI hMn cF iF eF O10
            go_wp2_with fail
            refine (LF.out _ B10.out).mono ?_
            rintro e w11 ⟨rfl, hb⟩
            replace B10 := Lib.hid (Buf.then_ B10.out hb)
            clear hb
            go_wp2_with fail
            refine (LM_.out _ B10.out).mono ?_
            rintro e w12 ⟨rfl, hb⟩
            replace B10 := Lib.hid (Buf.then_ B10.out hb)
            clear hb LF LM_
            have SM := Lib.hid fun (w' : World) (h' : Below w10.heap.size w10 w') => refsame11_any (O11.out.Ra.keep h') (O11.out.Rb.keep h')
            have MI := Lib.hid fun (w' : World) (h' : Below w10.heap.size w10 w') => refminus_canon (SF.out.keep h') (AL.out.keep h') CF.out HMI.out.canon IF.out IM.out (by rw [← hnf.out]; omega) (by omega)
            obtain ⟨k0, k1_⟩ := Spn.c2 (hop B10.out O11.out.P8)
            obtain ⟨k2, k3_⟩ := Spn.c2 (hop B10.out O11.out.P9)
            go_wp2_with fail
            refine (SM.out _ B10.out).mono ?_
            rintro e w13 ⟨rfl, hb⟩
            replace B10 := Lib.hid (Buf.then_ B10.out hb)
            clear hb SM k0 k1_ k2 k3_
            go_wp2_with fail
            refine (MI.out _ B10.out).mono ?_
            rintro e w14 ⟨⟨r, D, rfl, hO, hD, _⟩, hb⟩
            obtain rfl : D = [] := first_none HMI.out q0 (by rw [← hF.out]; exact hD)
            obtain ⟨da, dc, rfl⟩ := own_len hO
            replace B10 := Lib.hid (Buf.then_ B10.out hb)
            have BW := Lib.hid (Buf.then_ BL.out O11.out.B)
            clear hb MI hO hD
            simp only [List.length_nil]
            by_cases ckm : kf = km
            · have b2_ : (kf == km) = true := by rw [ckm]; exact beq_self_eq_true _
              go_wp2_with (go_at_call 10; refine (SN.out _).mono ?_; rintro e wz ⟨rfl, hz⟩)
              go_ret
              exact ⟨rfl, Buf.then_ (Buf.then_ BW.out B10.out) hz⟩
            · have b2_ : (kf == km) = false := beq_eq_false_iff_ne.2 ckm
              by_cases cnf : nf = 0
              · have b3_ : ((nf : Int) == 0) = true := by rw [cnf]; rfl
                go_wp2_with (go_at_call 10; refine (SN.out _).mono ?_; rintro e wz ⟨rfl, hz⟩)
                go_ret
                exact ⟨rfl, Buf.then_ (Buf.then_ BW.out B10.out) hz⟩
              · have b3_ : ((nf : Int) == 0) = false := beq_eq_false_iff_ne.2 (by omega)
                obtain ⟨j1, hj1⟩ : ∃ j1, j1 + 1 = nf := ⟨nf - 1, by omega⟩
                obtain ⟨⟨u, v⟩, hq⟩ : ∃ p, F[j1]? = some p := ⟨F[j1]'(by rw [← hnf.out]; omega), List.getElem?_eq_getElem _⟩
                obtain ⟨hx1, nfc, gq, hfa, hgq, _, _, c1, _⟩ := FG.out _ _ hq
                clear hx1
                have cc := (B10.out.cell (p := ⟨gq, _, none⟩) hgq).trans c1
                dsimp only at cc
                subst hfa
                have uv := CF.out.at hq
                have inb := IF.out _ (List.mem_of_getElem? hq)
                dsimp only at uv inb
                obtain ⟨in1, in2⟩ := inb
                have CU := Lib.hid (refcut_canon 0 v (AL.out.keep B10.out) HMI.out.canon IM.out (by omega) (by omega) (by omega) in2)
                have ej : (nf : Int) - 1 = (j1 : Int) := by omega
                have bj : (j1 : Int) < (nf : Int) := by omega
                have HQ := Lib.hid hq
                replace hj1 := Lib.hid hj1
                clear c1 hq
                go_wp2_with fail
                refine (CU.out).mono ?_
                rintro e w15 ⟨⟨r, C, rfl, hO, hC, _⟩, hb⟩
                obtain rfl : C = F := by rw [hF.out]; exact first_cut HMI.out IM.out q0 (by rw [← hF.out, ← hnf.out]; exact hj1.out) (by rw [← hF.out]; exact HQ.out) hC
                have B15 := Lib.hid (Buf.then_ B10.out hb)
                have SY := Lib.hid (same_yes (SF.out.keep B15.out) (its_of_own hO) (by rw [← hnf.out]; omega))
                clear hb CU hO hC cc
                go_wp2_with fail
                refine (SY.out).mono ?_
                rintro e w16 ⟨rfl, hb⟩
                replace B15 := Lib.hid (Buf.then_ B15.out hb)
                clear hb SY
                go_wp2_with (go_at_call 10; refine (SN.out _).mono ?_; rintro e wz ⟨rfl, hz⟩)
                go_ret
                exact ⟨rfl, Buf.then_ (Buf.then_ BW.out B15.out) hz⟩
  · have hd : decide ((len0 : Int) ≤ 500) = false := by simp; omega
    go_enter Try.func3, Try.ntmps3
    go_wp2_with (first | (go_at_call 9; refine (light_any _ _ _ _).mono ?_; rintro e w1 ⟨rfl, rfl⟩; rw [hd]) | (go_at_call 10; refine (SN.out _).mono ?_; rintro e wz ⟨rfl, hb⟩))
    go_ret
    exact ⟨rfl, hb⟩
end Laws
end Go.Proofs.Ytfneiomdgcoakaa
