/- The walk of SpanMembers. -/
import Derived.Test.YtmgbkbfnkejemaaSpnJ
set_option linter.unusedVariables false
set_option linter.unusedSimpArgs false
namespace Go.Proofs.Ytmgbkbfnkejemaa
open Go.RowKit Dice
namespace Laws
open Spn
open Sp (own_left)
set_option maxHeartbeats 16000000 in
set_option maxRecDepth 100000 in
theorem spanMembers_walk (a0 : Option Addr) (len0 cap0 : Nat) (z0 : List Int) (a1 : Int) (w : World) (w0 : Buf.IsRow .i64 w a0 len0 cap0 z0) (w1 : (Lit.int .u8 a1).wf = true) :
    Calls Try.prog 3 #[.slice a0 len0 cap0, .int .u8 a1] w fun e w' => e = .returned (.bool true) ∧ Below w.heap.size w w' := by
  obtain ⟨n0, n1⟩ := Ma.wf_u8 w1
  have qq : ∀ (b : Bool) (w : World), (binOp .eql 4 (.bool b) (.bool b)).run Try.prog w = .ok (.bool true) w := fun b w => by cases b <;> rfl
  by_cases hs : len0 ≤ 500
  · have hd : decide ((len0 : Int) ≤ 500) = true := by simp; omega
    go_enter Try.func3, Try.ntmps3
    go_wp2_with (first | (go_at_call 6; refine (light_any _ _ _ _).mono ?_; rintro e w1 ⟨rfl, rfl⟩; rw [hd]) | (go_at_call 8; refine (roll_any a0 len0 cap0 z0 _ w0 hs).mono ?_; rintro e w2 ⟨rfl, hdi⟩))
    have L0 := Lib.hid (Dice.Left.refl hdi)
    clear hdi
    refine (Spn.spans_any L0.out.di).mono ?_
    rintro e wd0 ⟨⟨vA, A, rfl, OA, lA, bA⟩, hl⟩
    replace OA := Lib.hid OA
    replace L0 := Lib.hid (L0.out.trans hl)
    clear hl
    go_wp2_with fail
    refine (Spn.spans_any L0.out.di).mono ?_
    rintro e wd1 ⟨⟨vB, B, rfl, OB, lB, bB⟩, hl⟩
    replace OA := Lib.hid (own_left OA.out L0.out.di (by decide) hl)
    replace OB := Lib.hid OB
    replace L0 := Lib.hid (L0.out.trans hl)
    clear hl
    go_wp2_with fail
    have RA := Lib.hid (Rv.of OA.out lA bA)
    have RB := Lib.hid (Rv.of OB.out lB bB)
    have HD := Lib.hid L0.out.di.bel
    have BC := Lib.hid (Below.refl wd1.heap.size wd1)
    clear L0 OA lA bA OB lB bB
    obtain ⟨xx, hxx⟩ : ∃ xx, xx = a1 % 45 := ⟨_, rfl⟩
    have x0 : 0 ≤ xx := by rw [hxx]; omega
    have x9 : xx < 45 := by rw [hxx]; omega
    rw [← hxx]
    replace hxx := Lib.hid hxx
    obtain ⟨P, hP⟩ : ∃ P, P = hasB A xx := ⟨_, rfl⟩
    obtain ⟨Q, hQ⟩ : ∃ Q, Q = hasB B xx := ⟨_, rfl⟩
    replace hP := Lib.hid hP
    replace hQ := Lib.hid hQ
    have C1 := refhas_sv xx RA.out (by decide)
    rw [← hP.out] at C1
    replace C1 := Lib.hid C1
    refine C1.out.mono ?_
    rintro e x1 ⟨rfl, b1⟩
    clear C1
    replace RA := Lib.hid (RA.out.keep b1)
    replace RB := Lib.hid (RB.out.keep b1)
    replace BC := Lib.hid (Buf.then_ BC.out b1)
    clear b1
    go_wp2_with fail
    have C2 := refhas_sv xx RB.out (by decide)
    rw [← hQ.out] at C2
    replace C2 := Lib.hid C2
    refine C2.out.mono ?_
    rintro e x2 ⟨rfl, b2⟩
    clear C2
    replace RA := Lib.hid (RA.out.keep b2)
    replace RB := Lib.hid (RB.out.keep b2)
    replace BC := Lib.hid (Buf.then_ BC.out b2)
    clear b2
    go_wp2_with fail
    have C3 := Lib.hid (union_sv RA.out RB.out (by decide) (by decide))
    refine C3.out.mono ?_
    rintro e x3 ⟨⟨r3, rfl, S3⟩, b3⟩
    clear C3
    replace RA := Lib.hid (RA.out.keep b3)
    replace RB := Lib.hid (RB.out.keep b3)
    replace S3 := Lib.hid S3
    replace BC := Lib.hid (Buf.then_ BC.out b3)
    clear b3
    go_wp2_with fail
    have C4 := Lib.hid (meet_sv RA.out RB.out (by decide) (by decide))
    refine C4.out.mono ?_
    rintro e x4 ⟨⟨r4, rfl, S4⟩, b4⟩
    clear C4
    replace RA := Lib.hid (RA.out.keep b4)
    replace RB := Lib.hid (RB.out.keep b4)
    replace S3 := Lib.hid (S3.out.keep b4)
    replace S4 := Lib.hid S4
    replace BC := Lib.hid (Buf.then_ BC.out b4)
    clear b4
    go_wp2_with fail
    have C5 := Lib.hid (minus_sv RA.out RB.out (by decide) (by decide))
    refine C5.out.mono ?_
    rintro e x5 ⟨⟨r5, rfl, S5⟩, b5⟩
    clear C5
    clear RB
    replace RA := Lib.hid (RA.out.keep b5)
    replace S3 := Lib.hid (S3.out.keep b5)
    replace S4 := Lib.hid (S4.out.keep b5)
    replace S5 := Lib.hid S5
    replace BC := Lib.hid (Buf.then_ BC.out b5)
    clear b5
    go_wp2_with fail
    have C6 := Lib.hid (normal_sv RA.out (by decide))
    refine C6.out.mono ?_
    rintro e x6 ⟨⟨r6, rfl, S6⟩, b6⟩
    clear C6
    replace RA := Lib.hid (RA.out.keep b6)
    replace S3 := Lib.hid (S3.out.keep b6)
    replace S4 := Lib.hid (S4.out.keep b6)
    replace S5 := Lib.hid (S5.out.keep b6)
    replace S6 := Lib.hid S6
    replace BC := Lib.hid (Buf.then_ BC.out b6)
    clear b6
    go_wp2_with fail
    have C7 := Lib.hid (cut_sv 3 (xx + 1) RA.out (by decide))
    refine C7.out.mono ?_
    rintro e x7 ⟨⟨r7, rfl, S7⟩, b7⟩
    clear C7
    clear RA
    replace S3 := Lib.hid (S3.out.keep b7)
    replace S4 := Lib.hid (S4.out.keep b7)
    replace S5 := Lib.hid (S5.out.keep b7)
    replace S6 := Lib.hid (S6.out.keep b7)
    replace S7 := Lib.hid S7
    replace BC := Lib.hid (Buf.then_ BC.out b7)
    clear b7
    go_wp2_with fail
    have C8 := Lib.hid (valid_sv S3.out (by decide))
    refine C8.out.mono ?_
    rintro e x8 ⟨rfl, b8⟩
    clear C8
    replace S3 := Lib.hid (S3.out.keep b8)
    replace S4 := Lib.hid (S4.out.keep b8)
    replace S5 := Lib.hid (S5.out.keep b8)
    replace S6 := Lib.hid (S6.out.keep b8)
    replace S7 := Lib.hid (S7.out.keep b8)
    replace BC := Lib.hid (Buf.then_ BC.out b8)
    clear b8
    go_wp2_with fail
    have C9 := Lib.hid (valid_sv S4.out (by decide))
    refine C9.out.mono ?_
    rintro e x9 ⟨rfl, b9⟩
    clear C9
    replace S3 := Lib.hid (S3.out.keep b9)
    replace S4 := Lib.hid (S4.out.keep b9)
    replace S5 := Lib.hid (S5.out.keep b9)
    replace S6 := Lib.hid (S6.out.keep b9)
    replace S7 := Lib.hid (S7.out.keep b9)
    replace BC := Lib.hid (Buf.then_ BC.out b9)
    clear b9
    go_wp2_with fail
    have C10 := Lib.hid (valid_sv S5.out (by decide))
    refine C10.out.mono ?_
    rintro e x10 ⟨rfl, b10⟩
    clear C10
    replace S3 := Lib.hid (S3.out.keep b10)
    replace S4 := Lib.hid (S4.out.keep b10)
    replace S5 := Lib.hid (S5.out.keep b10)
    replace S6 := Lib.hid (S6.out.keep b10)
    replace S7 := Lib.hid (S7.out.keep b10)
    replace BC := Lib.hid (Buf.then_ BC.out b10)
    clear b10
    go_wp2_with fail
    have C11 := Lib.hid (valid_sv S6.out (by decide))
    refine C11.out.mono ?_
    rintro e x11 ⟨rfl, b11⟩
    clear C11
    replace S3 := Lib.hid (S3.out.keep b11)
    replace S4 := Lib.hid (S4.out.keep b11)
    replace S5 := Lib.hid (S5.out.keep b11)
    replace S6 := Lib.hid (S6.out.keep b11)
    replace S7 := Lib.hid (S7.out.keep b11)
    replace BC := Lib.hid (Buf.then_ BC.out b11)
    clear b11
    go_wp2_with fail
    have C12 := Lib.hid (valid_sv S7.out (by decide))
    refine C12.out.mono ?_
    rintro e x12 ⟨rfl, b12⟩
    clear C12
    replace S3 := Lib.hid (S3.out.keep b12)
    replace S4 := Lib.hid (S4.out.keep b12)
    replace S5 := Lib.hid (S5.out.keep b12)
    replace S6 := Lib.hid (S6.out.keep b12)
    replace S7 := Lib.hid (S7.out.keep b12)
    replace BC := Lib.hid (Buf.then_ BC.out b12)
    clear b12
    go_wp2_with fail
    cases P <;> cases Q <;> rcases Int.lt_or_le xx 3 with h3 | h3 <;> replace h3 := Lib.hid h3
    · have h3 := h3.out
      have d3 : Hid (decide (3 ≤ xx ∧ xx < xx + 1) = false) := Lib.hid (by simp; omega)
      have d4 : Hid (decide (3 ≤ xx + 1 ∧ xx + 1 < xx + 1) = false) := Lib.hid (by simp)
      have HP : Hid (hasB A xx = false) := Lib.hid hP.out.symm
      have HQ : Hid (hasB B xx = false) := Lib.hid hQ.out.symm
      clear hP hQ
      have C13 := has_sv xx S3.out.rv (by decide)
      simp only [HP.out, HQ.out, Bool.or_self, Bool.or_true, Bool.true_or, Bool.or_false, Bool.false_or, Bool.and_self, Bool.and_true, Bool.true_and, Bool.and_false, Bool.false_and, Bool.not_true, Bool.not_false] at C13
      replace C13 := Lib.hid C13
      refine C13.out.mono ?_
      rintro e x13 ⟨rfl, b13⟩
      clear C13
      clear S3
      replace S4 := Lib.hid (S4.out.keep b13)
      replace S5 := Lib.hid (S5.out.keep b13)
      replace S6 := Lib.hid (S6.out.keep b13)
      replace S7 := Lib.hid (S7.out.keep b13)
      replace BC := Lib.hid (Buf.then_ BC.out b13)
      clear b13
      go_wp2_with fail
      have C14 := has_sv xx S4.out.rv (by decide)
      simp only [HP.out, HQ.out, Bool.or_self, Bool.or_true, Bool.true_or, Bool.or_false, Bool.false_or, Bool.and_self, Bool.and_true, Bool.true_and, Bool.and_false, Bool.false_and, Bool.not_true, Bool.not_false] at C14
      replace C14 := Lib.hid C14
      refine C14.out.mono ?_
      rintro e x14 ⟨rfl, b14⟩
      clear C14
      clear S4
      replace S5 := Lib.hid (S5.out.keep b14)
      replace S6 := Lib.hid (S6.out.keep b14)
      replace S7 := Lib.hid (S7.out.keep b14)
      replace BC := Lib.hid (Buf.then_ BC.out b14)
      clear b14
      go_wp2_with fail
      have C15 := has_sv xx S5.out.rv (by decide)
      simp only [HP.out, HQ.out, Bool.or_self, Bool.or_true, Bool.true_or, Bool.or_false, Bool.false_or, Bool.and_self, Bool.and_true, Bool.true_and, Bool.and_false, Bool.false_and, Bool.not_true, Bool.not_false] at C15
      replace C15 := Lib.hid C15
      refine C15.out.mono ?_
      rintro e x15 ⟨rfl, b15⟩
      clear C15
      clear S5
      replace S6 := Lib.hid (S6.out.keep b15)
      replace S7 := Lib.hid (S7.out.keep b15)
      replace BC := Lib.hid (Buf.then_ BC.out b15)
      clear b15
      go_wp2_with fail
      have C16 := has_sv xx S6.out.rv (by decide)
      simp only [HP.out, HQ.out, Bool.or_self, Bool.or_true, Bool.true_or, Bool.or_false, Bool.false_or, Bool.and_self, Bool.and_true, Bool.true_and, Bool.and_false, Bool.false_and, Bool.not_true, Bool.not_false] at C16
      replace C16 := Lib.hid C16
      refine C16.out.mono ?_
      rintro e x16 ⟨rfl, b16⟩
      clear C16
      clear S6
      replace S7 := Lib.hid (S7.out.keep b16)
      replace BC := Lib.hid (Buf.then_ BC.out b16)
      clear b16
      go_wp2_with fail
      have C17 := has_sv xx S7.out.rv (by decide)
      simp only [d3.out, HP.out, HQ.out, Bool.or_self, Bool.or_true, Bool.true_or, Bool.or_false, Bool.false_or, Bool.and_self, Bool.and_true, Bool.true_and, Bool.and_false, Bool.false_and, Bool.not_true, Bool.not_false] at C17
      replace C17 := Lib.hid C17
      refine C17.out.mono ?_
      rintro e x17 ⟨rfl, b17⟩
      clear C17
      replace S7 := Lib.hid (S7.out.keep b17)
      replace BC := Lib.hid (Buf.then_ BC.out b17)
      clear b17
      go_wp2_with fail
      have C18 := has_sv (xx + 1) S7.out.rv (by decide)
      simp only [d4.out, HP.out, HQ.out, Bool.or_self, Bool.or_true, Bool.true_or, Bool.or_false, Bool.false_or, Bool.and_self, Bool.and_true, Bool.true_and, Bool.and_false, Bool.false_and, Bool.not_true, Bool.not_false] at C18
      replace C18 := Lib.hid C18
      refine C18.out.mono ?_
      rintro e x18 ⟨rfl, b18⟩
      clear C18
      clear S7
      replace BC := Lib.hid (Buf.then_ BC.out b18)
      clear b18
      go_wp2_with fail
      refine (Spn.sane_any _).mono ?_
      rintro e x99 ⟨rfl, b99⟩
      go_wp2_with fail
      go_ret
      first | exact ⟨rfl, Buf.then_ HD.out (Buf.then_ BC.out b99)⟩ | (refine ⟨?_, Buf.then_ HD.out (Buf.then_ BC.out b99)⟩; simp; omega)
    · have h3 := h3.out
      have d3 : Hid (decide (3 ≤ xx ∧ xx < xx + 1) = true) := Lib.hid (by simp; omega)
      have d4 : Hid (decide (3 ≤ xx + 1 ∧ xx + 1 < xx + 1) = false) := Lib.hid (by simp)
      have HP : Hid (hasB A xx = false) := Lib.hid hP.out.symm
      have HQ : Hid (hasB B xx = false) := Lib.hid hQ.out.symm
      clear hP hQ
      have C13 := has_sv xx S3.out.rv (by decide)
      simp only [HP.out, HQ.out, Bool.or_self, Bool.or_true, Bool.true_or, Bool.or_false, Bool.false_or, Bool.and_self, Bool.and_true, Bool.true_and, Bool.and_false, Bool.false_and, Bool.not_true, Bool.not_false] at C13
      replace C13 := Lib.hid C13
      refine C13.out.mono ?_
      rintro e x13 ⟨rfl, b13⟩
      clear C13
      clear S3
      replace S4 := Lib.hid (S4.out.keep b13)
      replace S5 := Lib.hid (S5.out.keep b13)
      replace S6 := Lib.hid (S6.out.keep b13)
      replace S7 := Lib.hid (S7.out.keep b13)
      replace BC := Lib.hid (Buf.then_ BC.out b13)
      clear b13
      go_wp2_with fail
      have C14 := has_sv xx S4.out.rv (by decide)
      simp only [HP.out, HQ.out, Bool.or_self, Bool.or_true, Bool.true_or, Bool.or_false, Bool.false_or, Bool.and_self, Bool.and_true, Bool.true_and, Bool.and_false, Bool.false_and, Bool.not_true, Bool.not_false] at C14
      replace C14 := Lib.hid C14
      refine C14.out.mono ?_
      rintro e x14 ⟨rfl, b14⟩
      clear C14
      clear S4
      replace S5 := Lib.hid (S5.out.keep b14)
      replace S6 := Lib.hid (S6.out.keep b14)
      replace S7 := Lib.hid (S7.out.keep b14)
      replace BC := Lib.hid (Buf.then_ BC.out b14)
      clear b14
      go_wp2_with fail
      have C15 := has_sv xx S5.out.rv (by decide)
      simp only [HP.out, HQ.out, Bool.or_self, Bool.or_true, Bool.true_or, Bool.or_false, Bool.false_or, Bool.and_self, Bool.and_true, Bool.true_and, Bool.and_false, Bool.false_and, Bool.not_true, Bool.not_false] at C15
      replace C15 := Lib.hid C15
      refine C15.out.mono ?_
      rintro e x15 ⟨rfl, b15⟩
      clear C15
      clear S5
      replace S6 := Lib.hid (S6.out.keep b15)
      replace S7 := Lib.hid (S7.out.keep b15)
      replace BC := Lib.hid (Buf.then_ BC.out b15)
      clear b15
      go_wp2_with fail
      have C16 := has_sv xx S6.out.rv (by decide)
      simp only [HP.out, HQ.out, Bool.or_self, Bool.or_true, Bool.true_or, Bool.or_false, Bool.false_or, Bool.and_self, Bool.and_true, Bool.true_and, Bool.and_false, Bool.false_and, Bool.not_true, Bool.not_false] at C16
      replace C16 := Lib.hid C16
      refine C16.out.mono ?_
      rintro e x16 ⟨rfl, b16⟩
      clear C16
      clear S6
      replace S7 := Lib.hid (S7.out.keep b16)
      replace BC := Lib.hid (Buf.then_ BC.out b16)
      clear b16
      go_wp2_with fail
      have C17 := has_sv xx S7.out.rv (by decide)
      simp only [d3.out, HP.out, HQ.out, Bool.or_self, Bool.or_true, Bool.true_or, Bool.or_false, Bool.false_or, Bool.and_self, Bool.and_true, Bool.true_and, Bool.and_false, Bool.false_and, Bool.not_true, Bool.not_false] at C17
      replace C17 := Lib.hid C17
      refine C17.out.mono ?_
      rintro e x17 ⟨rfl, b17⟩
      clear C17
      replace S7 := Lib.hid (S7.out.keep b17)
      replace BC := Lib.hid (Buf.then_ BC.out b17)
      clear b17
      go_wp2_with fail
      have C18 := has_sv (xx + 1) S7.out.rv (by decide)
      simp only [d4.out, HP.out, HQ.out, Bool.or_self, Bool.or_true, Bool.true_or, Bool.or_false, Bool.false_or, Bool.and_self, Bool.and_true, Bool.true_and, Bool.and_false, Bool.false_and, Bool.not_true, Bool.not_false] at C18
      replace C18 := Lib.hid C18
      refine C18.out.mono ?_
      rintro e x18 ⟨rfl, b18⟩
      clear C18
      clear S7
      replace BC := Lib.hid (Buf.then_ BC.out b18)
      clear b18
      go_wp2_with fail
      refine (Spn.sane_any _).mono ?_
      rintro e x99 ⟨rfl, b99⟩
      go_wp2_with fail
      go_ret
      first | exact ⟨rfl, Buf.then_ HD.out (Buf.then_ BC.out b99)⟩ | (refine ⟨?_, Buf.then_ HD.out (Buf.then_ BC.out b99)⟩; simp; omega)
    · have h3 := h3.out
      have d3 : Hid (decide (3 ≤ xx ∧ xx < xx + 1) = false) := Lib.hid (by simp; omega)
      have d4 : Hid (decide (3 ≤ xx + 1 ∧ xx + 1 < xx + 1) = false) := Lib.hid (by simp)
      have HP : Hid (hasB A xx = false) := Lib.hid hP.out.symm
      have HQ : Hid (hasB B xx = true) := Lib.hid hQ.out.symm
      clear hP hQ
      have C13 := has_sv xx S3.out.rv (by decide)
      simp only [HP.out, HQ.out, Bool.or_self, Bool.or_true, Bool.true_or, Bool.or_false, Bool.false_or, Bool.and_self, Bool.and_true, Bool.true_and, Bool.and_false, Bool.false_and, Bool.not_true, Bool.not_false] at C13
      replace C13 := Lib.hid C13
      refine C13.out.mono ?_
      rintro e x13 ⟨rfl, b13⟩
      clear C13
      clear S3
      replace S4 := Lib.hid (S4.out.keep b13)
      replace S5 := Lib.hid (S5.out.keep b13)
      replace S6 := Lib.hid (S6.out.keep b13)
      replace S7 := Lib.hid (S7.out.keep b13)
      replace BC := Lib.hid (Buf.then_ BC.out b13)
      clear b13
      go_wp2_with fail
      have C14 := has_sv xx S4.out.rv (by decide)
      simp only [HP.out, HQ.out, Bool.or_self, Bool.or_true, Bool.true_or, Bool.or_false, Bool.false_or, Bool.and_self, Bool.and_true, Bool.true_and, Bool.and_false, Bool.false_and, Bool.not_true, Bool.not_false] at C14
      replace C14 := Lib.hid C14
      refine C14.out.mono ?_
      rintro e x14 ⟨rfl, b14⟩
      clear C14
      clear S4
      replace S5 := Lib.hid (S5.out.keep b14)
      replace S6 := Lib.hid (S6.out.keep b14)
      replace S7 := Lib.hid (S7.out.keep b14)
      replace BC := Lib.hid (Buf.then_ BC.out b14)
      clear b14
      go_wp2_with fail
      have C15 := has_sv xx S5.out.rv (by decide)
      simp only [HP.out, HQ.out, Bool.or_self, Bool.or_true, Bool.true_or, Bool.or_false, Bool.false_or, Bool.and_self, Bool.and_true, Bool.true_and, Bool.and_false, Bool.false_and, Bool.not_true, Bool.not_false] at C15
      replace C15 := Lib.hid C15
      refine C15.out.mono ?_
      rintro e x15 ⟨rfl, b15⟩
      clear C15
      clear S5
      replace S6 := Lib.hid (S6.out.keep b15)
      replace S7 := Lib.hid (S7.out.keep b15)
      replace BC := Lib.hid (Buf.then_ BC.out b15)
      clear b15
      go_wp2_with fail
      have C16 := has_sv xx S6.out.rv (by decide)
      simp only [HP.out, HQ.out, Bool.or_self, Bool.or_true, Bool.true_or, Bool.or_false, Bool.false_or, Bool.and_self, Bool.and_true, Bool.true_and, Bool.and_false, Bool.false_and, Bool.not_true, Bool.not_false] at C16
      replace C16 := Lib.hid C16
      refine C16.out.mono ?_
      rintro e x16 ⟨rfl, b16⟩
      clear C16
      clear S6
      replace S7 := Lib.hid (S7.out.keep b16)
      replace BC := Lib.hid (Buf.then_ BC.out b16)
      clear b16
      go_wp2_with fail
      have C17 := has_sv xx S7.out.rv (by decide)
      simp only [d3.out, HP.out, HQ.out, Bool.or_self, Bool.or_true, Bool.true_or, Bool.or_false, Bool.false_or, Bool.and_self, Bool.and_true, Bool.true_and, Bool.and_false, Bool.false_and, Bool.not_true, Bool.not_false] at C17
      replace C17 := Lib.hid C17
      refine C17.out.mono ?_
      rintro e x17 ⟨rfl, b17⟩
      clear C17
      replace S7 := Lib.hid (S7.out.keep b17)
      replace BC := Lib.hid (Buf.then_ BC.out b17)
      clear b17
      go_wp2_with fail
      have C18 := has_sv (xx + 1) S7.out.rv (by decide)
      simp only [d4.out, HP.out, HQ.out, Bool.or_self, Bool.or_true, Bool.true_or, Bool.or_false, Bool.false_or, Bool.and_self, Bool.and_true, Bool.true_and, Bool.and_false, Bool.false_and, Bool.not_true, Bool.not_false] at C18
      replace C18 := Lib.hid C18
      refine C18.out.mono ?_
      rintro e x18 ⟨rfl, b18⟩
      clear C18
      clear S7
      replace BC := Lib.hid (Buf.then_ BC.out b18)
      clear b18
      go_wp2_with fail
      refine (Spn.sane_any _).mono ?_
      rintro e x99 ⟨rfl, b99⟩
      go_wp2_with fail
      go_ret
      first | exact ⟨rfl, Buf.then_ HD.out (Buf.then_ BC.out b99)⟩ | (refine ⟨?_, Buf.then_ HD.out (Buf.then_ BC.out b99)⟩; simp; omega)
    · have h3 := h3.out
      have d3 : Hid (decide (3 ≤ xx ∧ xx < xx + 1) = true) := Lib.hid (by simp; omega)
      have d4 : Hid (decide (3 ≤ xx + 1 ∧ xx + 1 < xx + 1) = false) := Lib.hid (by simp)
      have HP : Hid (hasB A xx = false) := Lib.hid hP.out.symm
      have HQ : Hid (hasB B xx = true) := Lib.hid hQ.out.symm
      clear hP hQ
      have C13 := has_sv xx S3.out.rv (by decide)
      simp only [HP.out, HQ.out, Bool.or_self, Bool.or_true, Bool.true_or, Bool.or_false, Bool.false_or, Bool.and_self, Bool.and_true, Bool.true_and, Bool.and_false, Bool.false_and, Bool.not_true, Bool.not_false] at C13
      replace C13 := Lib.hid C13
      refine C13.out.mono ?_
      rintro e x13 ⟨rfl, b13⟩
      clear C13
      clear S3
      replace S4 := Lib.hid (S4.out.keep b13)
      replace S5 := Lib.hid (S5.out.keep b13)
      replace S6 := Lib.hid (S6.out.keep b13)
      replace S7 := Lib.hid (S7.out.keep b13)
      replace BC := Lib.hid (Buf.then_ BC.out b13)
      clear b13
      go_wp2_with fail
      have C14 := has_sv xx S4.out.rv (by decide)
      simp only [HP.out, HQ.out, Bool.or_self, Bool.or_true, Bool.true_or, Bool.or_false, Bool.false_or, Bool.and_self, Bool.and_true, Bool.true_and, Bool.and_false, Bool.false_and, Bool.not_true, Bool.not_false] at C14
      replace C14 := Lib.hid C14
      refine C14.out.mono ?_
      rintro e x14 ⟨rfl, b14⟩
      clear C14
      clear S4
      replace S5 := Lib.hid (S5.out.keep b14)
      replace S6 := Lib.hid (S6.out.keep b14)
      replace S7 := Lib.hid (S7.out.keep b14)
      replace BC := Lib.hid (Buf.then_ BC.out b14)
      clear b14
      go_wp2_with fail
      have C15 := has_sv xx S5.out.rv (by decide)
      simp only [HP.out, HQ.out, Bool.or_self, Bool.or_true, Bool.true_or, Bool.or_false, Bool.false_or, Bool.and_self, Bool.and_true, Bool.true_and, Bool.and_false, Bool.false_and, Bool.not_true, Bool.not_false] at C15
      replace C15 := Lib.hid C15
      refine C15.out.mono ?_
      rintro e x15 ⟨rfl, b15⟩
      clear C15
      clear S5
      replace S6 := Lib.hid (S6.out.keep b15)
      replace S7 := Lib.hid (S7.out.keep b15)
      replace BC := Lib.hid (Buf.then_ BC.out b15)
      clear b15
      go_wp2_with fail
      have C16 := has_sv xx S6.out.rv (by decide)
      simp only [HP.out, HQ.out, Bool.or_self, Bool.or_true, Bool.true_or, Bool.or_false, Bool.false_or, Bool.and_self, Bool.and_true, Bool.true_and, Bool.and_false, Bool.false_and, Bool.not_true, Bool.not_false] at C16
      replace C16 := Lib.hid C16
      refine C16.out.mono ?_
      rintro e x16 ⟨rfl, b16⟩
      clear C16
      clear S6
      replace S7 := Lib.hid (S7.out.keep b16)
      replace BC := Lib.hid (Buf.then_ BC.out b16)
      clear b16
      go_wp2_with fail
      have C17 := has_sv xx S7.out.rv (by decide)
      simp only [d3.out, HP.out, HQ.out, Bool.or_self, Bool.or_true, Bool.true_or, Bool.or_false, Bool.false_or, Bool.and_self, Bool.and_true, Bool.true_and, Bool.and_false, Bool.false_and, Bool.not_true, Bool.not_false] at C17
      replace C17 := Lib.hid C17
      refine C17.out.mono ?_
      rintro e x17 ⟨rfl, b17⟩
      clear C17
      replace S7 := Lib.hid (S7.out.keep b17)
      replace BC := Lib.hid (Buf.then_ BC.out b17)
      clear b17
      go_wp2_with fail
      have C18 := has_sv (xx + 1) S7.out.rv (by decide)
      simp only [d4.out, HP.out, HQ.out, Bool.or_self, Bool.or_true, Bool.true_or, Bool.or_false, Bool.false_or, Bool.and_self, Bool.and_true, Bool.true_and, Bool.and_false, Bool.false_and, Bool.not_true, Bool.not_false] at C18
      replace C18 := Lib.hid C18
      refine C18.out.mono ?_
      rintro e x18 ⟨rfl, b18⟩
      clear C18
      clear S7
      replace BC := Lib.hid (Buf.then_ BC.out b18)
      clear b18
      go_wp2_with fail
      refine (Spn.sane_any _).mono ?_
      rintro e x99 ⟨rfl, b99⟩
      go_wp2_with fail
      go_ret
      first | exact ⟨rfl, Buf.then_ HD.out (Buf.then_ BC.out b99)⟩ | (refine ⟨?_, Buf.then_ HD.out (Buf.then_ BC.out b99)⟩; simp; omega)
    · have h3 := h3.out
      have d3 : Hid (decide (3 ≤ xx ∧ xx < xx + 1) = false) := Lib.hid (by simp; omega)
      have d4 : Hid (decide (3 ≤ xx + 1 ∧ xx + 1 < xx + 1) = false) := Lib.hid (by simp)
      have HP : Hid (hasB A xx = true) := Lib.hid hP.out.symm
      have HQ : Hid (hasB B xx = false) := Lib.hid hQ.out.symm
      clear hP hQ
      have C13 := has_sv xx S3.out.rv (by decide)
      simp only [HP.out, HQ.out, Bool.or_self, Bool.or_true, Bool.true_or, Bool.or_false, Bool.false_or, Bool.and_self, Bool.and_true, Bool.true_and, Bool.and_false, Bool.false_and, Bool.not_true, Bool.not_false] at C13
      replace C13 := Lib.hid C13
      refine C13.out.mono ?_
      rintro e x13 ⟨rfl, b13⟩
      clear C13
      clear S3
      replace S4 := Lib.hid (S4.out.keep b13)
      replace S5 := Lib.hid (S5.out.keep b13)
      replace S6 := Lib.hid (S6.out.keep b13)
      replace S7 := Lib.hid (S7.out.keep b13)
      replace BC := Lib.hid (Buf.then_ BC.out b13)
      clear b13
      go_wp2_with fail
      have C14 := has_sv xx S4.out.rv (by decide)
      simp only [HP.out, HQ.out, Bool.or_self, Bool.or_true, Bool.true_or, Bool.or_false, Bool.false_or, Bool.and_self, Bool.and_true, Bool.true_and, Bool.and_false, Bool.false_and, Bool.not_true, Bool.not_false] at C14
      replace C14 := Lib.hid C14
      refine C14.out.mono ?_
      rintro e x14 ⟨rfl, b14⟩
      clear C14
      clear S4
      replace S5 := Lib.hid (S5.out.keep b14)
      replace S6 := Lib.hid (S6.out.keep b14)
      replace S7 := Lib.hid (S7.out.keep b14)
      replace BC := Lib.hid (Buf.then_ BC.out b14)
      clear b14
      go_wp2_with fail
      have C15 := has_sv xx S5.out.rv (by decide)
      simp only [HP.out, HQ.out, Bool.or_self, Bool.or_true, Bool.true_or, Bool.or_false, Bool.false_or, Bool.and_self, Bool.and_true, Bool.true_and, Bool.and_false, Bool.false_and, Bool.not_true, Bool.not_false] at C15
      replace C15 := Lib.hid C15
      refine C15.out.mono ?_
      rintro e x15 ⟨rfl, b15⟩
      clear C15
      clear S5
      replace S6 := Lib.hid (S6.out.keep b15)
      replace S7 := Lib.hid (S7.out.keep b15)
      replace BC := Lib.hid (Buf.then_ BC.out b15)
      clear b15
      go_wp2_with fail
      have C16 := has_sv xx S6.out.rv (by decide)
      simp only [HP.out, HQ.out, Bool.or_self, Bool.or_true, Bool.true_or, Bool.or_false, Bool.false_or, Bool.and_self, Bool.and_true, Bool.true_and, Bool.and_false, Bool.false_and, Bool.not_true, Bool.not_false] at C16
      replace C16 := Lib.hid C16
      refine C16.out.mono ?_
      rintro e x16 ⟨rfl, b16⟩
      clear C16
      clear S6
      replace S7 := Lib.hid (S7.out.keep b16)
      replace BC := Lib.hid (Buf.then_ BC.out b16)
      clear b16
      go_wp2_with fail
      have C17 := has_sv xx S7.out.rv (by decide)
      simp only [d3.out, HP.out, HQ.out, Bool.or_self, Bool.or_true, Bool.true_or, Bool.or_false, Bool.false_or, Bool.and_self, Bool.and_true, Bool.true_and, Bool.and_false, Bool.false_and, Bool.not_true, Bool.not_false] at C17
      replace C17 := Lib.hid C17
      refine C17.out.mono ?_
      rintro e x17 ⟨rfl, b17⟩
      clear C17
      replace S7 := Lib.hid (S7.out.keep b17)
      replace BC := Lib.hid (Buf.then_ BC.out b17)
      clear b17
      go_wp2_with fail
      have C18 := has_sv (xx + 1) S7.out.rv (by decide)
      simp only [d4.out, HP.out, HQ.out, Bool.or_self, Bool.or_true, Bool.true_or, Bool.or_false, Bool.false_or, Bool.and_self, Bool.and_true, Bool.true_and, Bool.and_false, Bool.false_and, Bool.not_true, Bool.not_false] at C18
      replace C18 := Lib.hid C18
      refine C18.out.mono ?_
      rintro e x18 ⟨rfl, b18⟩
      clear C18
      clear S7
      replace BC := Lib.hid (Buf.then_ BC.out b18)
      clear b18
      go_wp2_with fail
      refine (Spn.sane_any _).mono ?_
      rintro e x99 ⟨rfl, b99⟩
      go_wp2_with fail
      go_ret
      first | exact ⟨rfl, Buf.then_ HD.out (Buf.then_ BC.out b99)⟩ | (refine ⟨?_, Buf.then_ HD.out (Buf.then_ BC.out b99)⟩; simp; omega)
    · have h3 := h3.out
      have d3 : Hid (decide (3 ≤ xx ∧ xx < xx + 1) = true) := Lib.hid (by simp; omega)
      have d4 : Hid (decide (3 ≤ xx + 1 ∧ xx + 1 < xx + 1) = false) := Lib.hid (by simp)
      have HP : Hid (hasB A xx = true) := Lib.hid hP.out.symm
      have HQ : Hid (hasB B xx = false) := Lib.hid hQ.out.symm
      clear hP hQ
      have C13 := has_sv xx S3.out.rv (by decide)
      simp only [HP.out, HQ.out, Bool.or_self, Bool.or_true, Bool.true_or, Bool.or_false, Bool.false_or, Bool.and_self, Bool.and_true, Bool.true_and, Bool.and_false, Bool.false_and, Bool.not_true, Bool.not_false] at C13
      replace C13 := Lib.hid C13
      refine C13.out.mono ?_
      rintro e x13 ⟨rfl, b13⟩
      clear C13
      clear S3
      replace S4 := Lib.hid (S4.out.keep b13)
      replace S5 := Lib.hid (S5.out.keep b13)
      replace S6 := Lib.hid (S6.out.keep b13)
      replace S7 := Lib.hid (S7.out.keep b13)
      replace BC := Lib.hid (Buf.then_ BC.out b13)
      clear b13
      go_wp2_with fail
      have C14 := has_sv xx S4.out.rv (by decide)
      simp only [HP.out, HQ.out, Bool.or_self, Bool.or_true, Bool.true_or, Bool.or_false, Bool.false_or, Bool.and_self, Bool.and_true, Bool.true_and, Bool.and_false, Bool.false_and, Bool.not_true, Bool.not_false] at C14
      replace C14 := Lib.hid C14
      refine C14.out.mono ?_
      rintro e x14 ⟨rfl, b14⟩
      clear C14
      clear S4
      replace S5 := Lib.hid (S5.out.keep b14)
      replace S6 := Lib.hid (S6.out.keep b14)
      replace S7 := Lib.hid (S7.out.keep b14)
      replace BC := Lib.hid (Buf.then_ BC.out b14)
      clear b14
      go_wp2_with fail
      have C15 := has_sv xx S5.out.rv (by decide)
      simp only [HP.out, HQ.out, Bool.or_self, Bool.or_true, Bool.true_or, Bool.or_false, Bool.false_or, Bool.and_self, Bool.and_true, Bool.true_and, Bool.and_false, Bool.false_and, Bool.not_true, Bool.not_false] at C15
      replace C15 := Lib.hid C15
      refine C15.out.mono ?_
      rintro e x15 ⟨rfl, b15⟩
      clear C15
      clear S5
      replace S6 := Lib.hid (S6.out.keep b15)
      replace S7 := Lib.hid (S7.out.keep b15)
      replace BC := Lib.hid (Buf.then_ BC.out b15)
      clear b15
      go_wp2_with fail
      have C16 := has_sv xx S6.out.rv (by decide)
      simp only [HP.out, HQ.out, Bool.or_self, Bool.or_true, Bool.true_or, Bool.or_false, Bool.false_or, Bool.and_self, Bool.and_true, Bool.true_and, Bool.and_false, Bool.false_and, Bool.not_true, Bool.not_false] at C16
      replace C16 := Lib.hid C16
      refine C16.out.mono ?_
      rintro e x16 ⟨rfl, b16⟩
      clear C16
      clear S6
      replace S7 := Lib.hid (S7.out.keep b16)
      replace BC := Lib.hid (Buf.then_ BC.out b16)
      clear b16
      go_wp2_with fail
      have C17 := has_sv xx S7.out.rv (by decide)
      simp only [d3.out, HP.out, HQ.out, Bool.or_self, Bool.or_true, Bool.true_or, Bool.or_false, Bool.false_or, Bool.and_self, Bool.and_true, Bool.true_and, Bool.and_false, Bool.false_and, Bool.not_true, Bool.not_false] at C17
      replace C17 := Lib.hid C17
      refine C17.out.mono ?_
      rintro e x17 ⟨rfl, b17⟩
      clear C17
      replace S7 := Lib.hid (S7.out.keep b17)
      replace BC := Lib.hid (Buf.then_ BC.out b17)
      clear b17
      go_wp2_with fail
      have C18 := has_sv (xx + 1) S7.out.rv (by decide)
      simp only [d4.out, HP.out, HQ.out, Bool.or_self, Bool.or_true, Bool.true_or, Bool.or_false, Bool.false_or, Bool.and_self, Bool.and_true, Bool.true_and, Bool.and_false, Bool.false_and, Bool.not_true, Bool.not_false] at C18
      replace C18 := Lib.hid C18
      refine C18.out.mono ?_
      rintro e x18 ⟨rfl, b18⟩
      clear C18
      clear S7
      replace BC := Lib.hid (Buf.then_ BC.out b18)
      clear b18
      go_wp2_with fail
      refine (Spn.sane_any _).mono ?_
      rintro e x99 ⟨rfl, b99⟩
      go_wp2_with fail
      go_ret
      first | exact ⟨rfl, Buf.then_ HD.out (Buf.then_ BC.out b99)⟩ | (refine ⟨?_, Buf.then_ HD.out (Buf.then_ BC.out b99)⟩; simp; omega)
    · have h3 := h3.out
      have d3 : Hid (decide (3 ≤ xx ∧ xx < xx + 1) = false) := Lib.hid (by simp; omega)
      have d4 : Hid (decide (3 ≤ xx + 1 ∧ xx + 1 < xx + 1) = false) := Lib.hid (by simp)
      have HP : Hid (hasB A xx = true) := Lib.hid hP.out.symm
      have HQ : Hid (hasB B xx = true) := Lib.hid hQ.out.symm
      clear hP hQ
      have C13 := has_sv xx S3.out.rv (by decide)
      simp only [HP.out, HQ.out, Bool.or_self, Bool.or_true, Bool.true_or, Bool.or_false, Bool.false_or, Bool.and_self, Bool.and_true, Bool.true_and, Bool.and_false, Bool.false_and, Bool.not_true, Bool.not_false] at C13
      replace C13 := Lib.hid C13
      refine C13.out.mono ?_
      rintro e x13 ⟨rfl, b13⟩
      clear C13
      clear S3
      replace S4 := Lib.hid (S4.out.keep b13)
      replace S5 := Lib.hid (S5.out.keep b13)
      replace S6 := Lib.hid (S6.out.keep b13)
      replace S7 := Lib.hid (S7.out.keep b13)
      replace BC := Lib.hid (Buf.then_ BC.out b13)
      clear b13
      go_wp2_with fail
      have C14 := has_sv xx S4.out.rv (by decide)
      simp only [HP.out, HQ.out, Bool.or_self, Bool.or_true, Bool.true_or, Bool.or_false, Bool.false_or, Bool.and_self, Bool.and_true, Bool.true_and, Bool.and_false, Bool.false_and, Bool.not_true, Bool.not_false] at C14
      replace C14 := Lib.hid C14
      refine C14.out.mono ?_
      rintro e x14 ⟨rfl, b14⟩
      clear C14
      clear S4
      replace S5 := Lib.hid (S5.out.keep b14)
      replace S6 := Lib.hid (S6.out.keep b14)
      replace S7 := Lib.hid (S7.out.keep b14)
      replace BC := Lib.hid (Buf.then_ BC.out b14)
      clear b14
      go_wp2_with fail
      have C15 := has_sv xx S5.out.rv (by decide)
      simp only [HP.out, HQ.out, Bool.or_self, Bool.or_true, Bool.true_or, Bool.or_false, Bool.false_or, Bool.and_self, Bool.and_true, Bool.true_and, Bool.and_false, Bool.false_and, Bool.not_true, Bool.not_false] at C15
      replace C15 := Lib.hid C15
      refine C15.out.mono ?_
      rintro e x15 ⟨rfl, b15⟩
      clear C15
      clear S5
      replace S6 := Lib.hid (S6.out.keep b15)
      replace S7 := Lib.hid (S7.out.keep b15)
      replace BC := Lib.hid (Buf.then_ BC.out b15)
      clear b15
      go_wp2_with fail
      have C16 := has_sv xx S6.out.rv (by decide)
      simp only [HP.out, HQ.out, Bool.or_self, Bool.or_true, Bool.true_or, Bool.or_false, Bool.false_or, Bool.and_self, Bool.and_true, Bool.true_and, Bool.and_false, Bool.false_and, Bool.not_true, Bool.not_false] at C16
      replace C16 := Lib.hid C16
      refine C16.out.mono ?_
      rintro e x16 ⟨rfl, b16⟩
      clear C16
      clear S6
      replace S7 := Lib.hid (S7.out.keep b16)
      replace BC := Lib.hid (Buf.then_ BC.out b16)
      clear b16
      go_wp2_with fail
      have C17 := has_sv xx S7.out.rv (by decide)
      simp only [d3.out, HP.out, HQ.out, Bool.or_self, Bool.or_true, Bool.true_or, Bool.or_false, Bool.false_or, Bool.and_self, Bool.and_true, Bool.true_and, Bool.and_false, Bool.false_and, Bool.not_true, Bool.not_false] at C17
      replace C17 := Lib.hid C17
      refine C17.out.mono ?_
      rintro e x17 ⟨rfl, b17⟩
      clear C17
      replace S7 := Lib.hid (S7.out.keep b17)
      replace BC := Lib.hid (Buf.then_ BC.out b17)
      clear b17
      go_wp2_with fail
      have C18 := has_sv (xx + 1) S7.out.rv (by decide)
      simp only [d4.out, HP.out, HQ.out, Bool.or_self, Bool.or_true, Bool.true_or, Bool.or_false, Bool.false_or, Bool.and_self, Bool.and_true, Bool.true_and, Bool.and_false, Bool.false_and, Bool.not_true, Bool.not_false] at C18
      replace C18 := Lib.hid C18
      refine C18.out.mono ?_
      rintro e x18 ⟨rfl, b18⟩
      clear C18
      clear S7
      replace BC := Lib.hid (Buf.then_ BC.out b18)
      clear b18
      go_wp2_with fail
      refine (Spn.sane_any _).mono ?_
      rintro e x99 ⟨rfl, b99⟩
      go_wp2_with fail
      go_ret
      first | exact ⟨rfl, Buf.then_ HD.out (Buf.then_ BC.out b99)⟩ | (refine ⟨?_, Buf.then_ HD.out (Buf.then_ BC.out b99)⟩; simp; omega)
    · have h3 := h3.out
      have d3 : Hid (decide (3 ≤ xx ∧ xx < xx + 1) = true) := Lib.hid (by simp; omega)
      have d4 : Hid (decide (3 ≤ xx + 1 ∧ xx + 1 < xx + 1) = false) := Lib.hid (by simp)
      have HP : Hid (hasB A xx = true) := Lib.hid hP.out.symm
      have HQ : Hid (hasB B xx = true) := Lib.hid hQ.out.symm
      clear hP hQ
      have C13 := has_sv xx S3.out.rv (by decide)
      simp only [HP.out, HQ.out, Bool.or_self, Bool.or_true, Bool.true_or, Bool.or_false, Bool.false_or, Bool.and_self, Bool.and_true, Bool.true_and, Bool.and_false, Bool.false_and, Bool.not_true, Bool.not_false] at C13
      replace C13 := Lib.hid C13
      refine C13.out.mono ?_
      rintro e x13 ⟨rfl, b13⟩
      clear C13
      clear S3
      replace S4 := Lib.hid (S4.out.keep b13)
      replace S5 := Lib.hid (S5.out.keep b13)
      replace S6 := Lib.hid (S6.out.keep b13)
      replace S7 := Lib.hid (S7.out.keep b13)
      replace BC := Lib.hid (Buf.then_ BC.out b13)
      clear b13
      go_wp2_with fail
      have C14 := has_sv xx S4.out.rv (by decide)
      simp only [HP.out, HQ.out, Bool.or_self, Bool.or_true, Bool.true_or, Bool.or_false, Bool.false_or, Bool.and_self, Bool.and_true, Bool.true_and, Bool.and_false, Bool.false_and, Bool.not_true, Bool.not_false] at C14
      replace C14 := Lib.hid C14
      refine C14.out.mono ?_
      rintro e x14 ⟨rfl, b14⟩
      clear C14
      clear S4
      replace S5 := Lib.hid (S5.out.keep b14)
      replace S6 := Lib.hid (S6.out.keep b14)
      replace S7 := Lib.hid (S7.out.keep b14)
      replace BC := Lib.hid (Buf.then_ BC.out b14)
      clear b14
      go_wp2_with fail
      have C15 := has_sv xx S5.out.rv (by decide)
      simp only [HP.out, HQ.out, Bool.or_self, Bool.or_true, Bool.true_or, Bool.or_false, Bool.false_or, Bool.and_self, Bool.and_true, Bool.true_and, Bool.and_false, Bool.false_and, Bool.not_true, Bool.not_false] at C15
      replace C15 := Lib.hid C15
      refine C15.out.mono ?_
      rintro e x15 ⟨rfl, b15⟩
      clear C15
      clear S5
      replace S6 := Lib.hid (S6.out.keep b15)
      replace S7 := Lib.hid (S7.out.keep b15)
      replace BC := Lib.hid (Buf.then_ BC.out b15)
      clear b15
      go_wp2_with fail
      have C16 := has_sv xx S6.out.rv (by decide)
      simp only [HP.out, HQ.out, Bool.or_self, Bool.or_true, Bool.true_or, Bool.or_false, Bool.false_or, Bool.and_self, Bool.and_true, Bool.true_and, Bool.and_false, Bool.false_and, Bool.not_true, Bool.not_false] at C16
      replace C16 := Lib.hid C16
      refine C16.out.mono ?_
      rintro e x16 ⟨rfl, b16⟩
      clear C16
      clear S6
      replace S7 := Lib.hid (S7.out.keep b16)
      replace BC := Lib.hid (Buf.then_ BC.out b16)
      clear b16
      go_wp2_with fail
      have C17 := has_sv xx S7.out.rv (by decide)
      simp only [d3.out, HP.out, HQ.out, Bool.or_self, Bool.or_true, Bool.true_or, Bool.or_false, Bool.false_or, Bool.and_self, Bool.and_true, Bool.true_and, Bool.and_false, Bool.false_and, Bool.not_true, Bool.not_false] at C17
      replace C17 := Lib.hid C17
      refine C17.out.mono ?_
      rintro e x17 ⟨rfl, b17⟩
      clear C17
      replace S7 := Lib.hid (S7.out.keep b17)
      replace BC := Lib.hid (Buf.then_ BC.out b17)
      clear b17
      go_wp2_with fail
      have C18 := has_sv (xx + 1) S7.out.rv (by decide)
      simp only [d4.out, HP.out, HQ.out, Bool.or_self, Bool.or_true, Bool.true_or, Bool.or_false, Bool.false_or, Bool.and_self, Bool.and_true, Bool.true_and, Bool.and_false, Bool.false_and, Bool.not_true, Bool.not_false] at C18
      replace C18 := Lib.hid C18
      refine C18.out.mono ?_
      rintro e x18 ⟨rfl, b18⟩
      clear C18
      clear S7
      replace BC := Lib.hid (Buf.then_ BC.out b18)
      clear b18
      go_wp2_with fail
      refine (Spn.sane_any _).mono ?_
      rintro e x99 ⟨rfl, b99⟩
      go_wp2_with fail
      go_ret
      first | exact ⟨rfl, Buf.then_ HD.out (Buf.then_ BC.out b99)⟩ | (refine ⟨?_, Buf.then_ HD.out (Buf.then_ BC.out b99)⟩; simp; omega)
  · have hd : decide ((len0 : Int) ≤ 500) = false := by simp; omega
    go_enter Try.func3, Try.ntmps3
    go_wp2_with (first | (go_at_call 6; refine (light_any _ _ _ _).mono ?_; rintro e w1 ⟨rfl, rfl⟩; rw [hd]) | (go_at_call 7; refine (Spn.sane_any _).mono ?_; rintro e w2 ⟨rfl, hb⟩))
    go_ret
    exact ⟨rfl, hb⟩
end Laws
end Go.Proofs.Ytmgbkbfnkejemaa
