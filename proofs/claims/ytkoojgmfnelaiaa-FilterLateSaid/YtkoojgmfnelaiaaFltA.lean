/- Contract of filter.outputs that also tells where the first output lies. -/
import Derived.Test.YtkoojgmfnelaiaaFilA
import Derived.Test.YtkoojgmfnelaiaaFltM
set_option linter.unusedVariables false
namespace Go.Proofs.Ytkoojgmfnelaiaa
open Go.RowKit Wi Dice
namespace Fil
set_option maxHeartbeats 2000000 in
set_option maxRecDepth 100000 in
theorem outputs_first {w : World} {v u : Value} {n n' s : Nat} {T X : Nat → Int} {fac : Int} (num : Int) (h : SV w v n T) (hx : SV w u n' X) (fg : FG n T fac s) (hn' : n' ≤ 1000000) (hX : ∀ j, j < n' → -1073741823 ≤ X j ∧ X j ≤ 1073741823) (m0 : 0 ≤ num) (m1 : num ≤ 18014398509481984) :
    Calls Try.prog 34 #[.agg #[v, .int .i64 fac, .int .i64 s], u, .int .i64 num] w fun e w' => (∃ r f, e = .returned (.tuple #[r, .int .i64 f]) ∧ Buf.Own w.heap.size w' r (ints (outs T X n s fac num n')) ∧ (outs T X n s fac num n' ≠ [] → f = nx fac num (n - 1))) ∧ Below w.heap.size w w' := by
  have OA := Lib.hid fun (w1 : World) (hb : Below w.heap.size w w1) q h1 h2 => outputAt_any (h.below hb) (hx.below hb) fg q h1 h2 hn' hX
  have OB := Lib.hid fun q (h1 : n - 1 ≤ q) (h2 : q < n') => fg.out X q (fun j hj => hX (q - j) (by omega))
  obtain ⟨a, c, rfl, h1, h2, h3⟩ := h
  obtain ⟨a', c', rfl, g1, g2, g3⟩ := hx
  obtain ⟨n1, n2, s2, f1, f2, sum⟩ := fg
  obtain ⟨i0, hi, hz0, hz1, hz2⟩ := info_parts infoI
  clear h3 g3 h2 g2 sum hX
  have W0 := Lib.hid (new_block (w := w) (.cells #[.slice a n c, .int .i64 fac, .int .i64 s] 33))
  have B0 := Lib.hid (heap_alloc_new w (.cells #[.slice a n c, .int .i64 fac, .int .i64 s] 33))
  go_enter Try.func34, Try.ntmps34
  go_wp2_with fail
  generalize w.alloc (.cells #[.slice a n c, .int .i64 fac, .int .i64 s] 33) = w1 at *
  obtain ⟨x0, x1, x2⟩ := cells3 B0.out
  have en : ((n : Int) - 1) = ((n - 1 : Nat) : Int) := by omega
  go_wp2_with fail
  go_loopw [6, 7, 8] (fun r f i wr => ∃ (k : Nat) (f0 : Int), n - 1 ≤ k ∧ (k ≤ n' ∨ k = n - 1) ∧ i = .int .i64 k ∧ f = .int .i64 f0 ∧ Hid (Buf.Own w1.heap.size wr r (ints (outs T X n s fac num k))) ∧ Hid (Below w1.heap.size w1 wr) ∧ Hid (outs T X n s fac num k ≠ [] → f0 = nx fac num (n - 1))) (fun _ _ i _ => n' - (intOf i).toNat)
  case atStart => exact ⟨n - 1, 0, Nat.le_refl _, .inr rfl, by rw [en], rfl, Lib.hid (by rw [outs_zero T X n s fac num (n - 1) (Nat.le_refl _)]; exact Buf.Own.nil _ _), Lib.hid (Below.refl _ _), Lib.hid (fun h => absurd (outs_zero T X n s fac num (n - 1) (Nat.le_refl _)) h)⟩
  case round =>
    clear x0 x1 x2 en
    obtain ⟨k, f0, hk0, hk, rfl, rfl, ho, hb, hf⟩ := hrel
    have WW := Lib.hid (W0.out.trans (hb.out.mono W0.out.size))
    by_cases hlt : k < n'
    · have B1 := Lib.hid ((hb.out.block w.heap.size (Array.getElem?_eq_some_iff.1 B0.out).1).trans B0.out)
      obtain ⟨x0, x1, x2⟩ := cells3 B1.out
      have hfz : ¬ fac = 0 := by omega
      by_cases hm : (num + (k : Int)) % fac = 0
      · have hyes := Lib.hid (outs_yes T X n s fac num k hk0 hm)
        have hm' : (((num + (k : Int)) % fac) == 0) = true := by simpa using hm
        have hl := outs_len T X n s fac num k
        by_cases he : outs T X n s fac num k = []
        · have fx := Lib.hid (nx_first T X n s fac num f1 k hk0 he hm)
          rw [he] at ho hyes hf
          have l1 : Hid (([] : List Value).length + 1 ≤ maxLen) := Lib.hid (by decide)
          have l2 : Hid ((([] : List Value).length + 1) * 8 ≤ 140737488355328) := Lib.hid (by decide)
          clear he hl
          have ho' : Hid (Buf.Own w1.heap.size wr u6 []) := ho
          clear ho
          obtain ⟨ra, rc, rfl⟩ : ∃ a c, u6 = .slice a 0 c := own_len ho'.out
          have ho := ho'
          clear ho'
          go_wp2_with fail
          refine (OA.out _ WW.out k hk0 hlt).mono ?_
          rintro e w2 ⟨rfl, hb2⟩
          replace ho := Lib.hid (ho.out.below hb2)
          replace hb := Lib.hid (Buf.then_ hb.out hb2)
          have hsz := hb.out.size
          obtain ⟨o1, o2⟩ := OB.out k hk0 hlt
          generalize dot T X k n / 2 ^ s = y at *
          clear hb2 x0 x1 x2
          go_wp2_with (at_builtin; refine Buf.wpList_append_one rfl _ _ 22 rfl 3 _ i0 (.int .i64 0) 8 Try.underlying22 hi hz0 hz1 hz2 rfl rfl ho.out hb.out hsz (.int .i64 y) rfl rfl l1.out l2.out ?_; intro v' w3 hown' hb' _)
          go_roundw
          case rel => exact ⟨k + 1, k, by omega, by omega, by go_num, rfl, Lib.hid (by rw [hyes.out, ints_snoc]; exact hown'), Lib.hid hb', Lib.hid (fun _ => fx.out)⟩
          case measure => simp [intOf]; omega
        · have hx := Lib.hid (hf.out he)
          have hlen : (outs T X n s fac num k).length ≠ 0 := fun h => he (List.length_eq_zero_iff.1 h)
          have l1 : Hid ((ints (outs T X n s fac num k)).length + 1 ≤ maxLen) := Lib.hid (by rw [ints_len]; unfold maxLen; omega)
          have l2 : Hid (((ints (outs T X n s fac num k)).length + 1) * 8 ≤ 140737488355328) := Lib.hid (by rw [ints_len]; omega)
          have he' : (((ints (outs T X n s fac num k)).length : Int) == 0) = false := by rw [beq_eq_false_iff_ne, ints_len]; omega
          have hl' : (ints (outs T X n s fac num k)).length ≤ 1000000 := by rw [ints_len]; omega
          clear he hl hlen
          obtain ⟨ra, rc, rfl⟩ := own_len ho.out
          skip
          go_wp2_with fail
          refine (OA.out _ WW.out k hk0 hlt).mono ?_
          rintro e w2 ⟨rfl, hb2⟩
          replace ho := Lib.hid (ho.out.below hb2)
          replace hb := Lib.hid (Buf.then_ hb.out hb2)
          have hsz := hb.out.size
          obtain ⟨o1, o2⟩ := OB.out k hk0 hlt
          generalize dot T X k n / 2 ^ s = y at *
          clear hb2 x0 x1 x2
          go_wp2_with (at_builtin; refine Buf.wpList_append_one rfl _ _ 22 rfl 3 _ i0 (.int .i64 0) 8 Try.underlying22 hi hz0 hz1 hz2 rfl rfl ho.out hb.out hsz (.int .i64 y) rfl rfl l1.out l2.out ?_; intro v' w3 hown' hb' _)
          go_roundw
          case rel => exact ⟨k + 1, f0, by omega, by omega, by go_num, rfl, Lib.hid (by rw [hyes.out, ints_snoc]; exact hown'), Lib.hid hb', Lib.hid (fun _ => hx.out)⟩
          case measure => simp [intOf]; omega
      · have hno := Lib.hid (outs_no T X n s fac num k hm)
        have hm' : (((num + (k : Int)) % fac) == 0) = false := by simpa using hm
        go_wp2_with fail
        go_roundw
        case rel => exact ⟨k + 1, f0, by omega, by omega, by go_num, rfl, Lib.hid (by rw [hno.out]; exact ho.out), hb, Lib.hid (by rw [hno.out]; exact hf.out)⟩
        case measure => simp [intOf]; omega
    · have hout : Hid (outs T X n s fac num k = outs T X n s fac num n') := Lib.hid (by
        rcases hk with hk | hk
        · rw [show k = n' by omega]
        · rw [outs_zero T X n s fac num k (by omega), outs_zero T X n s fac num n' (by omega)])
      go_wp2_with fail
      go_ret2
      exact ⟨⟨_, f0, rfl, by rw [← hout.out]; exact ho.out.mono W0.out.size, by rw [← hout.out]; exact hf.out⟩, WW.out⟩
end Fil
end Go.Proofs.Ytkoojgmfnelaiaa
