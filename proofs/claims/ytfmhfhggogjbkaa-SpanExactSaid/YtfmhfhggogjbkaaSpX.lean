/- span.Length, First and Shift. -/
import Derived.Test.YtfmhfhggogjbkaaSpnG
import Derived.Test.YtfmhfhggogjbkaaSpnF
set_option linter.unusedVariables false
set_option linter.unusedSimpArgs false
namespace Go.Proofs.Ytfmhfhggogjbkaa
open Go.RowKit Dice
namespace Spn
open Sp (cells2 cells2_snoc cells2_get Spans own_kept own_below own_mono own_shape)
set_option maxRecDepth 100000 in
set_option maxHeartbeats 4000000 in
theorem first_gen {w : World} {v : Value} {L : LP} (n0 : Int) (h : Its w v L) (hI : Inside L (-9223372036854775808) 9223372036854775807) (h9 : L.length ≤ 500) (n00 : -9223372036854775808 ≤ n0) (n09 : n0 ≤ 9223372036854775807) :
    Calls Try.prog 31 #[v, .int .i64 n0] w fun e w' => (∃ r N, Is N (hasB L) ∧ N.length ≤ L.length ∧ e = .returned r ∧ Spans w' w.heap.size r (firstL N n0)) ∧ Below w.heap.size w w' := by
  obtain ⟨i0, hi, hz0, hz1, hz2⟩ := info_get infoS
  have C1 := Lib.hid (normal_any h h9)
  replace hI := Lib.hid hI
  clear h
  go_enter Try.func31, Try.ntmps31
  go_wp2_with fail
  refine C1.out.mono ?_
  rintro e w1 ⟨⟨r, N, rfl, O, I, hl⟩, b1⟩
  have HI := Lib.hid (I.inside hI.out)
  have HC := Lib.hid I.canon
  have HL := Lib.hid hl
  obtain ⟨ad, c, rfl, hc, hf⟩ := its_form (its_of_own O)
  obtain ⟨m, hn⟩ : ∃ m, m = N.length := ⟨_, rfl⟩
  rw [← hn] at hc hl ⊢
  replace hn := Lib.hid hn
  have hn9 : m ≤ 500 := by omega
  have F := Lib.hid hf
  have B1 := Lib.hid b1
  have hw1 := b1.size
  have A0 := Lib.hid (Below.refl w1.heap.size w1)
  have Z0 : Hid (Spans w1 w1.heap.size (.slice none 0 0) []) := Lib.hid (World.ownsRow_nil _ _ _ _)
  replace I := Lib.hid I
  clear O hf b1 C1 hl h9
  go_wp2_with fail
  go_loopw [12, 5, 1] (fun i s x wr => ∃ (k : Nat) (u : Int) (S : LP), k ≤ m ∧ i = .int .i64 k ∧ x = .int .i64 u ∧ -9223372036854775808 ≤ u ∧ u ≤ 9223372036854775807 ∧ Hid (S.length ≤ k) ∧ Hid (S ++ firstL (N.drop k) u = firstL N n0) ∧ Hid (Spans wr w1.heap.size s S) ∧ Hid (Below w1.heap.size w1 wr)) (fun i _ _ _ => m - (intOf i).toNat)
  case atStart => exact ⟨0, n0, [], Nat.zero_le _, rfl, rfl, n00, n09, Lib.hid (Nat.le_refl _), Lib.hid rfl, Z0, A0⟩
  case round =>
    clear A0 Z0
    obtain ⟨k, u, S, hk, rfl, rfl, u0, u9, HS, HF, HO, HB⟩ := hrel
    by_cases hlt : k < m
    · obtain ⟨⟨f, t⟩, hp⟩ : ∃ p, N[k]? = some p := ⟨N[k]'(by rw [← hn.out]; exact hlt), List.getElem?_eq_getElem _⟩
      have hstep := firstL_step hp u
      obtain ⟨g, rfl, hg, q0, q1⟩ := F.out k _ hp
      have k0 := (HB.out.cell (p := ⟨g, _, none⟩) hg).trans q0
      have k1 := (HB.out.cell (p := ⟨g, _, none⟩) hg).trans q1
      have i1 := HI.out _ (List.mem_of_getElem? hp)
      have i2 := HC.out.at hp
      dsimp only at k0 k1 i1 i2
      have hs9 := HS.out
      have B3 := Lib.hid (HB.out.alloc HB.out.size (.cells #[.int .i64 f, .int .i64 t] 49))
      replace hp := Lib.hid hp
      clear q0 q1
      by_cases hu : u < 1
      · have e : Hid (firstL N n0 = S) := Lib.hid (by rw [← HF.out, hstep, if_pos hu]; simp)
        clear HF hstep
        have d1 : decide (u < 1) = true := decide_eq_true hu
        have O3 := Lib.hid (own_below HO.out (new_block (.cells #[.int .i64 f, .int .i64 t] 49)))
        go_wp2_with fail
        go_ret
        exact ⟨⟨_, N, I.out, HL.out, rfl, by rw [e.out]; exact own_mono O3.out hw1⟩, B1.out.trans (B3.out.mono hw1)⟩
      · have d1 : decide (u < 1) = false := decide_eq_false hu
        obtain ⟨T, hT⟩ : ∃ T, T = t % 18446744073709551616 := ⟨_, rfl⟩
        obtain ⟨Fw, hFw⟩ : ∃ Fw, Fw = f % 18446744073709551616 := ⟨_, rfl⟩
        have v1 : IntKind.u64.wrap t = T := by rw [hT]; simp [IntKind.wrap, IntKind.bits, IntKind.signed]
        have v2 : IntKind.u64.wrap f = Fw := by rw [hFw]; simp [IntKind.wrap, IntKind.bits, IntKind.signed]
        have v3 : IntKind.u64.wrap (T - Fw) = t - f := by simp [IntKind.wrap, IntKind.bits, IntKind.signed]; omega
        clear hT hFw
        have v4 : IntKind.u64.wrap u = u := by simp [IntKind.wrap, IntKind.bits, IntKind.signed]; omega
        by_cases hd : u < t - f
        · have e : Hid (firstL N n0 = S ++ [(f, f + u)]) := Lib.hid (by rw [← HF.out, hstep, if_neg hu, if_pos hd])
          clear HF hstep
          have d2 : decide (u < t - f) = true := decide_eq_true hd
          have v5 : IntKind.i64.wrap (f + u) = f + u := IntWalk.i64_in _ (by omega)
          have one : Hid (∀ x ∈ [Value.int .i64 f, .int .i64 (f + u)], x.oneCell' = true) := Lib.hid (by simp; exact ⟨rfl, rfl⟩)
          have O3 := Lib.hid (own_below (own_below HO.out (new_block (.cells #[.int .i64 f, .int .i64 t] 49))) (new_block (.cells #[.int .i64 f, .int .i64 (f + u)] 49)))
          have hb3 : Hid (((wr.alloc (.cells #[.int .i64 f, .int .i64 t] 49)).alloc (.cells #[.int .i64 f, .int .i64 (f + u)] 49)).heap[wr.heap.size + 1]? = some (.cells #[.int .i64 f, .int .i64 (f + u)] 49 (0, 0))) := Lib.hid (by simpa using heap_alloc_new (wr.alloc (.cells #[.int .i64 f, .int .i64 t] 49)) (.cells #[.int .i64 f, .int .i64 (f + u)] 49))
          have B4 := Lib.hid (B3.out.alloc B3.out.size (.cells #[.int .i64 f, .int .i64 (f + u)] 49))
          have hB3 := Lib.hid B4.out.size
          go_wp2_with (at_builtin; refine wpList_append_lies _ rfl (.tmp 29) (.tmp 37) 23 rfl w1.heap.size 49 i0 (.agg #[.int .i64 0, .int .i64 0]) 2 16 Try.underlying23 hi hz0 hz1 hz2 rfl (by decide) _ S.length (cells2 S) rfl O3.out ⟨wr.heap.size + 1, 0, none⟩ 1 1 [.int .i64 f, .int .i64 (f + u)] rfl rfl (World.news_of_block hb3.out) one.out (by decide) (by unfold maxLen; omega) (by omega) hB3.out _ rfl ?_; intro gq cq w5 O2 G2 hg2 hl2)
          have O5 : Hid (Spans w5 w.heap.size (.slice (some ⟨gq, 0, none⟩) (S.length + 1) cq) (firstL N n0)) := Lib.hid (by rw [e.out]; refine own_mono (B := w1.heap.size) ?_ hw1; rw [cells2_snoc]; simpa using O2)
          have B5 := Lib.hid (B1.out.trans ((B4.out.grown G2 hB3.out (fun k hk => (O3.out.lt k hk).1)).mono hw1))
          clear O2 G2 hg2 hl2
          go_ret
          exact ⟨⟨_, N, I.out, HL.out, rfl, O5.out⟩, B5.out⟩
        · have e : Hid ((S ++ [(f, t)]) ++ firstL (N.drop (k + 1)) (u - (t - f)) = firstL N n0) := Lib.hid (by rw [← HF.out, hstep, if_neg hu, if_neg hd]; simp)
          clear HF hstep
          have d2 : decide (u < t - f) = false := decide_eq_false hd
          have v6 : IntKind.i64.wrap (t - f) = t - f := IntWalk.i64_in _ (by omega)
          have v7 : IntKind.i64.wrap (u - (t - f)) = u - (t - f) := IntWalk.i64_in _ (by omega)
          have one : Hid (∀ x ∈ [Value.int .i64 f, .int .i64 t], x.oneCell' = true) := Lib.hid (by simp; exact ⟨rfl, rfl⟩)
          have O3 := Lib.hid (own_below (own_below HO.out (new_block (.cells #[.int .i64 f, .int .i64 t] 49))) (new_block (.cells #[.int .i64 f, .int .i64 (t)] 49)))
          have hb3 : Hid (((wr.alloc (.cells #[.int .i64 f, .int .i64 t] 49)).alloc (.cells #[.int .i64 f, .int .i64 (t)] 49)).heap[wr.heap.size + 1]? = some (.cells #[.int .i64 f, .int .i64 (t)] 49 (0, 0))) := Lib.hid (by simpa using heap_alloc_new (wr.alloc (.cells #[.int .i64 f, .int .i64 t] 49)) (.cells #[.int .i64 f, .int .i64 (t)] 49))
          have B4 := Lib.hid (B3.out.alloc B3.out.size (.cells #[.int .i64 f, .int .i64 (t)] 49))
          have hB3 := Lib.hid B4.out.size
          go_wp2_with (at_builtin; refine wpList_append_lies _ rfl (.tmp 39) (.tmp 41) 23 rfl w1.heap.size 49 i0 (.agg #[.int .i64 0, .int .i64 0]) 2 16 Try.underlying23 hi hz0 hz1 hz2 rfl (by decide) _ S.length (cells2 S) rfl O3.out ⟨wr.heap.size + 1, 0, none⟩ 1 1 [.int .i64 f, .int .i64 (t)] rfl rfl (World.news_of_block hb3.out) one.out (by decide) (by unfold maxLen; omega) (by omega) hB3.out _ rfl ?_; intro gq cq w5 O2 G2 hg2 hl2)
          have B5 := Lib.hid (B4.out.grown G2 hB3.out (fun k hk => (O3.out.lt k hk).1))
          have O5 : Hid (Spans w5 w1.heap.size (.slice (some ⟨gq, 0, none⟩) (S.length + 1) cq) (S ++ [(f, t)])) := Lib.hid (by unfold Spans; rw [cells2_snoc]; simpa using O2)
          clear O2 G2 hg2 hl2 O3 hb3 B4 hB3 one
          go_wp2_with fail
          go_roundw
          case rel => exact ⟨k + 1, u - (t - f), S ++ [(f, t)], by omega, by go_num, rfl, by omega, by omega, Lib.hid (by simp; omega), e, O5, B5⟩
          case measure => simp [intOf]; omega
    · obtain rfl : k = m := by omega
      have e : Hid (firstL N n0 = S) := Lib.hid (by rw [← HF.out, List.drop_of_length_le (by rw [hn.out]; exact Nat.le_refl _)]; simp [firstL])
      go_wp2_with fail
      go_ret
      exact ⟨⟨_, N, I.out, HL.out, rfl, by rw [e.out]; exact own_mono HO.out hw1⟩, B1.out.trans (HB.out.mono hw1)⟩
end Spn
end Go.Proofs.Ytfmhfhggogjbkaa
