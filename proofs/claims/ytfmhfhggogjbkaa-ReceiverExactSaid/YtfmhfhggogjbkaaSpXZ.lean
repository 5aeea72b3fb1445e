/- SpXZ: texts joined. -/
import Derived.Test.YtfmhfhggogjbkaaSpnEI
/- span.Length, First and Shift. -/
set_option linter.unusedVariables false
set_option linter.unusedSimpArgs false
namespace Go.Proofs.Ytfmhfhggogjbkaa
open Go.RowKit Dice
namespace Spn
open Sp (cells2 cells2_snoc cells2_get Spans own_kept own_below own_mono own_shape)
set_option maxRecDepth 100000 in
set_option maxHeartbeats 4000000 in
theorem first_gen {w : World} {v : Value} {L : LP} (n0 : Int) (h : Its w v L) (hI : Inside L (-9223372036854775808) 9223372036854775807) (h9 : L.length ≤ 500) (n00 : -9223372036854775808 ≤ n0) (n09 : n0 ≤ 9223372036854775807) :
    Calls Try.prog 31 #[v, .int .i64 n0] w fun e w' => (∃ r N, Is N (hasB L) ∧ N.length ≤ L.length ∧ e = .returned r ∧ Spans w' w.heap.size r (firstL N n0)) ∧ Below w.heap.size w w' := by
  obtain ⟨i0, hi, hz0, hz1, hz2⟩ := info_get infoS
  have C1 := Lib.hid (normal_any h h9)
  replace hI := Lib.hid hI
  clear h
  go_enter Try.func31, Try.ntmps31
  go_wp2_with fail
  refine C1.out.mono ?_
  rintro e w1 ⟨⟨r, N, rfl, O, I, hl⟩, b1⟩
  have HI := Lib.hid (I.inside hI.out)
  have HC := Lib.hid I.canon
  have HL := Lib.hid hl
  obtain ⟨ad, c, rfl, hc, hf⟩ := its_form (its_of_own O)
  obtain ⟨m, hn⟩ : ∃ m, m = N.length := ⟨_, rfl⟩
  rw [← hn] at hc hl ⊢
  replace hn := Lib.hid hn
  have hn9 : m ≤ 500 := by omega
  have F := Lib.hid hf
  have B1 := Lib.hid b1
  have hw1 := b1.size
  have A0 := Lib.hid (Below.refl w1.heap.size w1)
  have Z0 : Hid (Spans w1 w1.heap.size (.slice none 0 0) []) := Lib.hid (World.ownsRow_nil _ _ _ _)
  replace I := Lib.hid I
  clear O hf b1 C1 hl h9
  go_wp2_with fail
  go_loopw [12, 5, 1] (fun i s x wr => ∃ (k : Nat) (u : Int) (S : LP), k ≤ m ∧ i = .int .i64 k ∧ x = .int .i64 u ∧ -9223372036854775808 ≤ u ∧ u ≤ 9223372036854775807 ∧ Hid (S.length ≤ k) ∧ Hid (S ++ firstL (N.drop k) u = firstL N n0) ∧ Hid (Spans wr w1.heap.size s S) ∧ Hid (Below w1.heap.size w1 wr)) (fun i _ _ _ => m - (intOf i).toNat)
  case atStart => exact ⟨0, n0, [], Nat.zero_le _, rfl, rfl, n00, n09, Lib.hid (Nat.le_refl _), Lib.hid rfl, Z0, A0⟩
  case round =>
    clear A0 Z0
    obtain ⟨k, u, S, hk, rfl, rfl, u0, u9, HS, HF, HO, HB⟩ := hrel
    by_cases hlt : k < m
    · obtain ⟨⟨f, t⟩, hp⟩ : ∃ p, N[k]? = some p := ⟨N[k]'(by rw [← hn.out]; exact hlt), List.getElem?_eq_getElem _⟩
      have hstep := firstL_step hp u
      obtain ⟨g, rfl, hg, q0, q1⟩ := F.out k _ hp
      have k0 := (HB.out.cell (p := ⟨g, _, none⟩) hg).trans q0
      have k1 := (HB.out.cell (p := ⟨g, _, none⟩) hg).trans q1
      have i1 := HI.out _ (List.mem_of_getElem? hp)
      have i2 := HC.out.at hp
      dsimp only at k0 k1 i1 i2
      have hs9 := HS.out
      have B3 := Lib.hid (HB.out.alloc HB.out.size (.cells #[.int .i64 f, .int .i64 t] 49))
      replace hp := Lib.hid hp
      clear q0 q1
      by_cases hu : u < 1
      · have e : Hid (firstL N n0 = S) := Lib.hid (by rw [← HF.out, hstep, if_pos hu]; simp)
        clear HF hstep
        have d1 : decide (u < 1) = true := decide_eq_true hu
        have O3 := Lib.hid (own_below HO.out (new_block (.cells #[.int .i64 f, .int .i64 t] 49)))
        go_wp2_with fail
        go_ret
        exact ⟨⟨_, N, I.out, HL.out, rfl, by rw [e.out]; exact own_mono O3.out hw1⟩, B1.out.trans (B3.out.mono hw1)⟩
      · have d1 : decide (u < 1) = false := decide_eq_false hu
        obtain ⟨T, hT⟩ : ∃ T, T = t % 18446744073709551616 := ⟨_, rfl⟩
        obtain ⟨Fw, hFw⟩ : ∃ Fw, Fw = f % 18446744073709551616 := ⟨_, rfl⟩
        have v1 : IntKind.u64.wrap t = T := by rw [hT]; simp [IntKind.wrap, IntKind.bits, IntKind.signed]
        have v2 : IntKind.u64.wrap f = Fw := by rw [hFw]; simp [IntKind.wrap, IntKind.bits, IntKind.signed]
        have v3 : IntKind.u64.wrap (T - Fw) = t - f := by simp [IntKind.wrap, IntKind.bits, IntKind.signed]; omega
        clear hT hFw
        have v4 : IntKind.u64.wrap u = u := by simp [IntKind.wrap, IntKind.bits, IntKind.signed]; omega
        by_cases hd : u < t - f
        · have e : Hid (firstL N n0 = S ++ [(f, f + u)]) := Lib.hid (by rw [← HF.out, hstep, if_neg hu, if_pos hd])
          clear HF hstep
          have d2 : decide (u < t - f) = true := decide_eq_true hd
          have v5 : IntKind.i64.wrap (f + u) = f + u := IntWalk.i64_in _ (by omega)
          have one : Hid (∀ x ∈ [Value.int .i64 f, .int .i64 (f + u)], x.oneCell' = true) := Lib.hid (by simp; exact ⟨rfl, rfl⟩)
          have O3 := Lib.hid (own_below (own_below HO.out (new_block (.cells #[.int .i64 f, .int .i64 t] 49))) (new_block (.cells #[.int .i64 f, .int .i64 (f + u)] 49)))
          have hb3 : Hid (((wr.alloc (.cells #[.int .i64 f, .int .i64 t] 49)).alloc (.cells #[.int .i64 f, .int .i64 (f + u)] 49)).heap[wr.heap.size + 1]? = some (.cells #[.int .i64 f, .int .i64 (f + u)] 49 (0, 0))) := Lib.hid (by simpa using heap_alloc_new (wr.alloc (.cells #[.int .i64 f, .int .i64 t] 49)) (.cells #[.int .i64 f, .int .i64 (f + u)] 49))
          have B4 := Lib.hid (B3.out.alloc B3.out.size (.cells #[.int .i64 f, .int .i64 (f + u)] 49))
          have hB3 := Lib.hid B4.out.size
          go_wp2_with (at_builtin; refine wpList_append_lies _ rfl (.tmp 29) (.tmp 37) 23 rfl w1.heap.size 49 i0 (.agg #[.int .i64 0, .int .i64 0]) 2 16 Try.underlying23 hi hz0 hz1 hz2 rfl (by decide) _ S.length (cells2 S) rfl O3.out ⟨wr.heap.size + 1, 0, none⟩ 1 1 [.int .i64 f, .int .i64 (f + u)] rfl rfl (World.news_of_block hb3.out) one.out (by decide) (by unfold maxLen; omega) (by omega) hB3.out _ rfl ?_; intro gq cq w5 O2 G2 hg2 hl2)
          have O5 : Hid (Spans w5 w.heap.size (.slice (some ⟨gq, 0, none⟩) (S.length + 1) cq) (firstL N n0)) := Lib.hid (by rw [e.out]; refine own_mono (B := w1.heap.size) ?_ hw1; rw [cells2_snoc]; simpa using O2)
          have B5 := Lib.hid (B1.out.trans ((B4.out.grown G2 hB3.out (fun k hk => (O3.out.lt k hk).1)).mono hw1))
          clear O2 G2 hg2 hl2
          go_ret
          exact ⟨⟨_, N, I.out, HL.out, rfl, O5.out⟩, B5.out⟩
        · have e : Hid ((S ++ [(f, t)]) ++ firstL (N.drop (k + 1)) (u - (t - f)) = firstL N n0) := Lib.hid (by rw [← HF.out, hstep, if_neg hu, if_neg hd]; simp)
          clear HF hstep
          have d2 : decide (u < t - f) = false := decide_eq_false hd
          have v6 : IntKind.i64.wrap (t - f) = t - f := IntWalk.i64_in _ (by omega)
          have v7 : IntKind.i64.wrap (u - (t - f)) = u - (t - f) := IntWalk.i64_in _ (by omega)
          have one : Hid (∀ x ∈ [Value.int .i64 f, .int .i64 t], x.oneCell' = true) := Lib.hid (by simp; exact ⟨rfl, rfl⟩)
          have O3 := Lib.hid (own_below (own_below HO.out (new_block (.cells #[.int .i64 f, .int .i64 t] 49))) (new_block (.cells #[.int .i64 f, .int .i64 (t)] 49)))
          have hb3 : Hid (((wr.alloc (.cells #[.int .i64 f, .int .i64 t] 49)).alloc (.cells #[.int .i64 f, .int .i64 (t)] 49)).heap[wr.heap.size + 1]? = some (.cells #[.int .i64 f, .int .i64 (t)] 49 (0, 0))) := Lib.hid (by simpa using heap_alloc_new (wr.alloc (.cells #[.int .i64 f, .int .i64 t] 49)) (.cells #[.int .i64 f, .int .i64 (t)] 49))
          have B4 := Lib.hid (B3.out.alloc B3.out.size (.cells #[.int .i64 f, .int .i64 (t)] 49))
          have hB3 := Lib.hid B4.out.size
          go_wp2_with (at_builtin; refine wpList_append_lies _ rfl (.tmp 39) (.tmp 41) 23 rfl w1.heap.size 49 i0 (.agg #[.int .i64 0, .int .i64 0]) 2 16 Try.underlying23 hi hz0 hz1 hz2 rfl (by decide) _ S.length (cells2 S) rfl O3.out ⟨wr.heap.size + 1, 0, none⟩ 1 1 [.int .i64 f, .int .i64 (t)] rfl rfl (World.news_of_block hb3.out) one.out (by decide) (by unfold maxLen; omega) (by omega) hB3.out _ rfl ?_; intro gq cq w5 O2 G2 hg2 hl2)
          have B5 := Lib.hid (B4.out.grown G2 hB3.out (fun k hk => (O3.out.lt k hk).1))
          have O5 : Hid (Spans w5 w1.heap.size (.slice (some ⟨gq, 0, none⟩) (S.length + 1) cq) (S ++ [(f, t)])) := Lib.hid (by unfold Spans; rw [cells2_snoc]; simpa using O2)
          clear O2 G2 hg2 hl2 O3 hb3 B4 hB3 one
          go_wp2_with fail
          go_roundw
          case rel => exact ⟨k + 1, u - (t - f), S ++ [(f, t)], by omega, by go_num, rfl, by omega, by omega, Lib.hid (by simp; omega), e, O5, B5⟩
          case measure => simp [intOf]; omega
    · obtain rfl : k = m := by omega
      have e : Hid (firstL N n0 = S) := Lib.hid (by rw [← HF.out, List.drop_of_length_le (by rw [hn.out]; exact Nat.le_refl _)]; simp [firstL])
      go_wp2_with fail
      go_ret
      exact ⟨⟨_, N, I.out, HL.out, rfl, by rw [e.out]; exact own_mono HO.out hw1⟩, B1.out.trans (HB.out.mono hw1)⟩
end Spn
end Go.Proofs.Ytfmhfhggogjbkaa

/- span.isNear, Length, Shift where ends are too far. -/
set_option linter.unusedVariables false
set_option linter.unusedSimpArgs false
namespace Go.Proofs.Ytfmhfhggogjbkaa
open Go.RowKit Dice
namespace Spn
open Sp (cells2 cells2_snoc cells2_get Spans own_kept own_below own_mono own_shape)
/-- The ends are near. -/
abbrev Near (L : LP) : Prop := Inside L (-1152921504606846976) 1152921504606846976
theorem near_ends {L : LP} (hC : Canon L) {n : Nat} {f t f2 t2 : Int} (h0 : L[0]? = some (f, t)) (hn : n + 1 = L.length) (h2 : L[n]? = some (f2, t2)) (a : -1152921504606846976 ≤ f) (b : t2 ≤ 1152921504606846976) : Near L := by
  intro p hp
  obtain ⟨j, hj, rfl⟩ := List.mem_iff_getElem.1 hp
  have hj' : L[j]? = some L[j] := List.getElem?_eq_getElem hj
  have g1 : f ≤ (L[j]).1 := by
    rcases Nat.eq_zero_or_pos j with rfl | hp0
    · rw [h0] at hj'; injection hj' with e; rw [← e]; exact Int.le_refl _
    · have := hC.get hp0 h0 hj'; have := hC.at h0; simp only at *; omega
  have g2 : (L[j]).2 ≤ t2 := by
    rcases Nat.lt_or_ge j n with c | c
    · have := hC.get c hj' h2; have := hC.at h2; simp only at *; omega
    · have : j = n := by omega
      subst this
      rw [h2] at hj'; injection hj' with e; rw [← e]; exact Int.le_refl _
  exact ⟨by omega, by omega⟩
set_option maxHeartbeats 2000000 in
theorem isNear_no {w : World} {v : Value} {L : LP} (h : Its w v L) (hC : Canon L) (hI : ¬ Near L) (h9 : L.length ≤ 1000) :
    Calls Try.prog 61 #[v] w fun e w' => e = .returned (.bool false) ∧ Below w.heap.size w w' := by
  obtain ⟨ad, c, rfl, hc, hf⟩ := its_form h
  rcases Nat.eq_zero_or_pos L.length with h0 | hpos
  · exact absurd (fun p hp => by rw [List.length_eq_zero_iff.1 h0] at hp; cases hp) hI
  · obtain ⟨n, hn⟩ : ∃ n, n + 1 = L.length := ⟨L.length - 1, by omega⟩
    obtain ⟨⟨f, t⟩, hp⟩ : ∃ p, L[0]? = some p := ⟨L[0], List.getElem?_eq_getElem _⟩
    obtain ⟨⟨f2, t2⟩, hp2⟩ : ∃ p, L[n]? = some p := ⟨L[n]'(by omega), List.getElem?_eq_getElem _⟩
    obtain ⟨g, rfl, hg, q0, q1⟩ := hf 0 _ hp
    obtain ⟨g', e, _, p0, p1⟩ := hf n _ hp2
    cases e
    have ne := fun a b => hI (near_ends hC hp hn hp2 a b)
    dsimp only at q0 q1 p0 p1
    obtain ⟨m, hm⟩ : ∃ m, m = L.length := ⟨_, rfl⟩
    rw [← hm] at hn h9 hc hpos ⊢
    have e1 : IntKind.i64.wrap ((m : Int) - 1) = n := by rw [IntWalk.i64_in _ ⟨by omega, by omega⟩]; omega
    have b1 : (n : Int) < m := by omega
    have b2 : (0 : Int) < m := by omega
    have d1 : ((m : Int) == 0) = false := by simp; omega
    replace hn := Lib.hid hn
    clear hf hI h hm hp hp2
    by_cases c1 : -1152921504606846976 ≤ f
    · have c2 : ¬ t2 ≤ 1152921504606846976 := ne c1
      have d2 : decide (-1152921504606846976 ≤ f) = true := decide_eq_true c1
      have d3 : decide (t2 ≤ 1152921504606846976) = false := decide_eq_false c2
      clear ne
      go_enter Try.func61, Try.ntmps61
      go_wp2_with fail
      go_ret
      exact ⟨rfl, Below.refl _ _⟩
    · have d2 : decide (-1152921504606846976 ≤ f) = false := decide_eq_false c1
      clear ne
      go_enter Try.func61, Try.ntmps61
      go_wp2_with fail
      go_ret
      exact ⟨rfl, Below.refl _ _⟩
set_option maxHeartbeats 2000000 in
theorem length_no {w : World} {v : Value} {L N0 : LP} (h : Its w v L) (hN : Is N0 (hasB L)) (hI : ¬ Near N0) (h9 : L.length ≤ 500) :
    Calls Try.prog 35 #[v] w fun e w' => e = .returned (.tuple #[.int .i64 0, .bool false]) ∧ Below w.heap.size w w' := by
  have C1 := Lib.hid (normal_any h h9)
  replace hN := Lib.hid hN
  replace hI := Lib.hid hI
  clear h
  go_enter Try.func35, Try.ntmps35
  go_wp2_with fail
  refine C1.out.mono ?_
  rintro e w1 ⟨⟨r, N, rfl, O, I, hl⟩, b1⟩
  obtain rfl := Is.unique I hN.out
  have C2 := Lib.hid (isNear_no (its_of_own O) I.canon hI.out (by omega))
  have B1 := Lib.hid b1
  obtain ⟨ra, rc, rfl⟩ : ∃ a c, r = .slice a N.length c := by obtain ⟨a, c, e, _⟩ := its_form (its_of_own O); exact ⟨a, c, e⟩
  clear O I b1 C1 hl
  go_wp2_with fail
  refine C2.out.mono ?_
  rintro e w2 ⟨rfl, b2⟩
  go_wp2_with fail
  go_ret2
  exact ⟨rfl, Buf.then_ B1.out b2⟩
set_option maxHeartbeats 2000000 in
theorem shift_no {w : World} {v : Value} {L N0 : LP} (d : Int) (h : Its w v L) (hN : Is N0 (hasB L)) (hI : ¬ Near N0 ∨ d < -1152921504606846976 ∨ 1152921504606846976 < d) (h9 : L.length ≤ 500) :
    Calls Try.prog 33 #[v, .int .i64 d] w fun e w' => e = .returned (.tuple #[.slice none 0 0, .int .i64 2]) ∧ Below w.heap.size w w' := by
  have C1 := Lib.hid (normal_any h h9)
  replace hN := Lib.hid hN
  clear h
  by_cases c1 : d < -1152921504606846976
  · have d1 : decide (d < -1152921504606846976) = true := decide_eq_true c1
    clear hI
    go_enter Try.func33, Try.ntmps33
    go_wp2_with fail
    refine C1.out.mono ?_
    rintro e w1 ⟨⟨r, N, rfl, O, I, hl⟩, b1⟩
    go_wp2_with fail
    go_ret2
    exact ⟨rfl, b1⟩
  · have d1 : decide (d < -1152921504606846976) = false := decide_eq_false c1
    by_cases c2 : 1152921504606846976 < d
    · have d2 : decide (1152921504606846976 < d) = true := decide_eq_true c2
      clear hI
      go_enter Try.func33, Try.ntmps33
      go_wp2_with fail
      refine C1.out.mono ?_
      rintro e w1 ⟨⟨r, N, rfl, O, I, hl⟩, b1⟩
      go_wp2_with fail
      go_ret2
      exact ⟨rfl, b1⟩
    · have d2 : decide (1152921504606846976 < d) = false := decide_eq_false c2
      replace hI : ¬ Near N0 := by rcases hI with h | h | h; exact h; exact absurd h c1; exact absurd h c2
      replace hI := Lib.hid hI
      go_enter Try.func33, Try.ntmps33
      go_wp2_with fail
      refine C1.out.mono ?_
      rintro e w1 ⟨⟨r, N, rfl, O, I, hl⟩, b1⟩
      obtain rfl := Is.unique I hN.out
      have C2 := Lib.hid (isNear_no (its_of_own O) I.canon hI.out (by omega))
      have B1 := Lib.hid b1
      obtain ⟨ra, rc, rfl⟩ : ∃ a c, r = .slice a N.length c := by obtain ⟨a, c, e, _⟩ := its_form (its_of_own O); exact ⟨a, c, e⟩
      clear O I b1 C1 hl
      go_wp2_with fail
      refine C2.out.mono ?_
      rintro e w2 ⟨rfl, b2⟩
      go_wp2_with fail
      go_ret2
      exact ⟨rfl, Buf.then_ B1.out b2⟩
end Spn
end Go.Proofs.Ytfmhfhggogjbkaa

/- span.Length, Shift where the ends of the valid list are near. -/
set_option linter.unusedVariables false
set_option linter.unusedSimpArgs false
namespace Go.Proofs.Ytfmhfhggogjbkaa
open Go.RowKit Dice
namespace Spn
open Sp (cells2 cells2_snoc cells2_get Spans own_kept own_below own_mono own_shape)
set_option maxRecDepth 100000 in
set_option maxHeartbeats 4000000 in
theorem length_near {w : World} {v : Value} {L N0 : LP} (h : Its w v L) (hN0 : Is N0 (hasB L)) (hI : Near N0) (h9 : L.length ≤ 500) :
    Calls Try.prog 35 #[v] w fun e w' => (∃ N, Is N (hasB L) ∧ e = .returned (.tuple #[.int .i64 (lenL N), .bool true])) ∧ Below w.heap.size w w' := by
  have C1 := Lib.hid (normal_any h h9)
  replace hI := Lib.hid hI
  replace hN0 := Lib.hid hN0
  clear h
  go_enter Try.func35, Try.ntmps35
  go_wp2_with fail
  refine C1.out.mono ?_
  rintro e w1 ⟨⟨r, N, rfl, O, I, hl⟩, b1⟩
  have HI := Lib.hid (show Inside N (-1152921504606846976) 1152921504606846976 from by rw [Is.unique I hN0.out]; exact hI.out)
  have HC := Lib.hid I.canon
  have C2 := Lib.hid (isNear_yes (its_of_own O) HI.out (by omega))
  obtain ⟨ad, c, rfl, hc, hf⟩ := its_form (its_of_own O)
  obtain ⟨n, hn⟩ : ∃ n, n = N.length := ⟨_, rfl⟩
  rw [← hn] at hc hl C2 ⊢
  replace hn := Lib.hid hn
  have hn9 : n ≤ 500 := by omega
  have F := Lib.hid hf
  have B1 := Lib.hid b1
  replace I := Lib.hid I
  clear O hf b1 C1 hl h9
  go_wp2_with fail
  refine C2.out.mono ?_
  rintro e w2 ⟨rfl, b2⟩
  have F2 : Hid (∀ (k : Nat) (p : Int × Int), N[k]? = some p → ∃ g, ad = some ⟨g, 0, none⟩ ∧ g < w2.heap.size ∧ w2.cell? ⟨g, k * 2, none⟩ = some (.int .i64 p.1) ∧ w2.cell? ⟨g, k * 2 + 1, none⟩ = some (.int .i64 p.2)) := Lib.hid fun k p hp => by
    obtain ⟨g, e, h1, h2, h3⟩ := F.out k p hp
    exact ⟨g, e, Nat.lt_of_lt_of_le h1 b2.size, (b2.cell (p := ⟨g, _, none⟩) h1).trans h2, (b2.cell (p := ⟨g, _, none⟩) h1).trans h3⟩
  have B2 := Lib.hid (Buf.then_ B1.out b2)
  have hw2 := B2.out.size
  have A0 := Lib.hid (Below.refl w2.heap.size w2)
  clear F B1 b2 C2
  go_wp2_with fail
  go_loopw [15, 5] (fun i s wr => ∃ (k : Nat) (u : Int), k ≤ n ∧ i = .int .i64 k ∧ s = .int .i64 u ∧ Hid (u = lenL (N.take k)) ∧ Hid (Below w2.heap.size w2 wr)) (fun i _ _ => n - (intOf i).toNat)
  case atStart => exact ⟨0, 0, Nat.zero_le _, rfl, rfl, Lib.hid rfl, A0⟩
  case round =>
    clear A0
    obtain ⟨k, u, hk, rfl, rfl, HU, HB⟩ := hrel
    by_cases hlt : k < n
    · obtain ⟨⟨f, t⟩, hp⟩ : ∃ p, N[k]? = some p := ⟨N[k]'(by rw [← hn.out]; exact hlt), List.getElem?_eq_getElem _⟩
      obtain ⟨g, rfl, hg, q0, q1⟩ := F2.out k _ hp
      have k0 := (HB.out.cell (p := ⟨g, _, none⟩) hg).trans q0
      have k1 := (HB.out.cell (p := ⟨g, _, none⟩) hg).trans q1
      dsimp only at k0 k1
      obtain ⟨s1, s2⟩ := step_wraps HC.out HI.out hp
      rw [← HU.out] at s2
      obtain ⟨u2, hu2⟩ : ∃ u2, u2 = lenL (N.take (k + 1)) := ⟨_, rfl⟩
      obtain ⟨d, hd⟩ : ∃ d, d = t - f := ⟨_, rfl⟩
      rw [← hu2] at s2
      rw [← hd] at s1 s2
      replace hu2 := Lib.hid hu2
      have s1' : IntKind.i64.wrap (t - f) = d := by rw [← hd]; exact s1
      have B3 := Lib.hid (HB.out.alloc HB.out.size (.cells #[.int .i64 f, .int .i64 t] 49))
      replace hp := Lib.hid hp
      replace hd := Lib.hid hd
      clear q0 q1 HU s1
      go_wp2_with fail
      go_roundw
      case rel => exact ⟨k + 1, u2, by omega, by go_num, rfl, hu2, B3⟩
      case measure => simp [intOf]; omega
    · obtain rfl : k = n := by omega
      have e : Hid (u = lenL N) := Lib.hid (by rw [HU.out, take_all N k (by rw [hn.out]; exact Nat.le_refl _)])
      go_wp2_with fail
      go_ret2
      exact ⟨⟨N, I.out, by rw [e.out]; rfl⟩, B2.out.trans (HB.out.mono hw2)⟩
set_option maxRecDepth 100000 in
set_option maxHeartbeats 4000000 in
theorem shift_near {w : World} {v : Value} {L N0 : LP} (d : Int) (h : Its w v L) (hN0 : Is N0 (hasB L)) (hI : Near N0) (h9 : L.length ≤ 500) (d0 : -1152921504606846976 ≤ d) (d1 : d ≤ 1152921504606846976) :
    Calls Try.prog 33 #[v, .int .i64 d] w fun e w' => (∃ r N, Is N (hasB L) ∧ N.length ≤ L.length ∧ e = .returned (.tuple #[r, .int .i64 0]) ∧ Spans w' w.heap.size r (moveL N d)) ∧ Below w.heap.size w w' := by
  have C1 := Lib.hid (normal_any h h9)
  replace hI := Lib.hid hI
  replace hN0 := Lib.hid hN0
  clear h
  go_enter Try.func33, Try.ntmps33
  go_wp2_with fail
  refine C1.out.mono ?_
  rintro e w1 ⟨⟨r, N, rfl, O, I, hl⟩, b1⟩
  have HI := Lib.hid (show Inside N (-1152921504606846976) 1152921504606846976 from by rw [Is.unique I hN0.out]; exact hI.out)
  have HC := Lib.hid I.canon
  have C2 := Lib.hid (isNear_yes (its_of_own O) HI.out (by omega))
  have HL := Lib.hid hl
  have hn9 : N.length ≤ 500 := by omega
  have B1 := Lib.hid b1
  have hsh := own_shape O
  have HO := Lib.hid O
  replace I := Lib.hid I
  clear O b1 C1 hl
  rcases hsh with ⟨rfl, hn⟩ | ⟨g, c, rfl, hc, hg⟩
  · obtain rfl : N = [] := List.length_eq_zero_iff.1 hn
    go_wp2_with fail
    refine C2.out.mono ?_
    rintro e w2 ⟨rfl, b2⟩
    have B2 := Lib.hid (Buf.then_ B1.out b2)
    have O2 : Hid (Spans w2 w.heap.size (.slice none 0 0) (moveL [] d)) := Lib.hid (World.ownsRow_nil _ _ _ _)
    go_wp2_with fail
    go_loop [23, 7] (fun i _ => i = .int .i64 0) (fun _ _ => 0)
    case atStart => rfl
    case round =>
      subst hrel
      go_wp2_with fail
      go_ret2
      exact ⟨⟨_, [], I.out, HL.out, rfl, O2.out⟩, B2.out⟩
  · obtain ⟨n, hn⟩ : ∃ n, n = N.length := ⟨_, rfl⟩
    have hgB := (HO.out.lt g rfl).1
    rw [← hn] at hc hn9 HO C2 ⊢
    replace hn := Lib.hid hn
    go_wp2_with fail
    refine C2.out.mono ?_
    rintro e w2 ⟨rfl, b2⟩
    have B2 := Lib.hid (Buf.then_ B1.out b2)
    have O2 : Hid (w2.ownsRow w.heap.size 49 2 (.slice (some ⟨g, 0, none⟩) n c) n (cells2 (partL N d 0))) := Lib.hid (own_below (by have := HO.out; unfold Spans at this; rw [← hn.out] at this; simpa [partL, moveL] using this) b2)
    clear HO b2 B1 C2
    go_wp2_with fail
    go_loopw [23, 7] (fun i _ wr => ∃ k : Nat, k ≤ n ∧ i = .int .i64 k ∧ Hid (wr.ownsRow w.heap.size 49 2 (.slice (some ⟨g, 0, none⟩) n c) n (cells2 (partL N d k))) ∧ Hid (Below w.heap.size w wr)) (fun i _ _ => n - (intOf i).toNat)
    case atStart => exact ⟨0, Nat.zero_le _, rfl, O2, B2⟩
    case round =>
      clear O2 B2
      obtain ⟨k, hk, rfl, HO, HB⟩ := hrel
      by_cases hlt : k < n
      · obtain ⟨⟨f, t⟩, hp⟩ : ∃ p, N[k]? = some p := ⟨N[k]'(by rw [← hn.out]; exact hlt), List.getElem?_eq_getElem _⟩
        obtain ⟨p1, p2, p3⟩ := partL_at (d := d) hp
        have i1 := HI.out _ (List.mem_of_getElem? hp)
        have i2 := HC.out.at hp
        dsimp only at i1 i2
        have o1 := HO.out
        rw [p1] at o1
        obtain ⟨k0, k1⟩ := cells_at o1 k p3 hlt
        have o2 := store_from (f + d) o1 k p3
        have o3 := store_to (t + d) o2 k p3
        rw [← p2] at o3
        obtain ⟨j0, j1⟩ := cells_at o2 k p3 hlt
        have z1 := World.ownsRow.frozenAt o1 (k * 2)
        have z2 := World.ownsRow.frozenAt o2 (k * 2 + 1)
        have w1 : IntKind.i64.wrap (f + d) = f + d := IntWalk.i64_in _ (by omega)
        have w2 : IntKind.i64.wrap (t + d) = t + d := IntWalk.i64_in _ (by omega)
        have O3 := Lib.hid o3
        have B3 := Lib.hid ((HB.out.setCell (p := ⟨g, k * 2, none⟩) hgB (.int .i64 (f + d))).setCell (p := ⟨g, k * 2 + 1, none⟩) hgB (.int .i64 (t + d)))
        have b1 : (k : Int) < n := by omega
        replace hp := Lib.hid hp
        clear o1 o2 o3 p1 p2 p3 HO HB
        go_wp2_with fail
        exact ⟨⟨k + 1, by omega, by go_num, O3, B3⟩, by simp [intOf]; omega⟩
      · obtain rfl : k = n := by omega
        have e : Hid (partL N d k = moveL N d) := Lib.hid (by unfold partL; rw [take_all N k (by rw [hn.out]; exact Nat.le_refl _), List.drop_of_length_le (by rw [hn.out]; exact Nat.le_refl _)]; simp)
        have O4 : Hid (Spans wr w.heap.size (.slice (some ⟨g, 0, none⟩) k c) (moveL N d)) := Lib.hid (by have := HO.out; rw [e.out] at this; unfold Spans; rw [moveL_length, ← hn.out]; exact this)
        go_wp2_with fail
        go_ret2
        exact ⟨⟨_, N, I.out, HL.out, rfl, O4.out⟩, HB.out⟩
theorem firstL_len (l : LP) (n : Int) : (firstL l n).length ≤ l.length := by
  induction l generalizing n with
  | nil => simp [firstL]
  | cons p t ih =>
    unfold firstL
    split
    · simp
    · split
      · simp
      · simp only [List.length_cons]; have := ih (n - (p.2 - p.1)); omega
end Spn
end Go.Proofs.Ytfmhfhggogjbkaa
