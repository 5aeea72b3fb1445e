/- The walk of SpanAlgebra. -/
import Derived.Test.YtmgbkbfnkejemaaSpnJ
set_option linter.unusedVariables false
set_option linter.unusedSimpArgs false
namespace Go.Proofs.Ytmgbkbfnkejemaa
open Go.RowKit Dice
namespace Laws
open Spn
open Sp (own_left)
set_option maxHeartbeats 16000000 in
set_option maxRecDepth 100000 in
theorem spanAlgebra_walk (a0 : Option Addr) (len0 cap0 : Nat) (z0 : List Int) (w : World) (w0 : Buf.IsRow .i64 w a0 len0 cap0 z0) :
    Calls Try.prog 4 #[.slice a0 len0 cap0] w fun e w' => e = .returned (.bool true) ∧ Below w.heap.size w w' := by
  by_cases hs : len0 ≤ 500
  · have hd : decide ((len0 : Int) ≤ 500) = true := by simp; omega
    go_enter Try.func4, Try.ntmps4
    go_wp2_with (first | (go_at_call 6; refine (light_any _ _ _ _).mono ?_; rintro e w1 ⟨rfl, rfl⟩; rw [hd]) | (go_at_call 8; refine (roll_any a0 len0 cap0 z0 _ w0 hs).mono ?_; rintro e w2 ⟨rfl, hdi⟩))
    have L0 := Lib.hid (Dice.Left.refl hdi)
    clear hdi
    refine (Spn.spans_any L0.out.di).mono ?_
    rintro e wd0 ⟨⟨vA, A, rfl, OA, lA, bA⟩, hl⟩
    replace OA := Lib.hid OA
    replace L0 := Lib.hid (L0.out.trans hl)
    clear hl
    go_wp2_with fail
    refine (Spn.spans_any L0.out.di).mono ?_
    rintro e wd1 ⟨⟨vB, B, rfl, OB, lB, bB⟩, hl⟩
    replace OA := Lib.hid (own_left OA.out L0.out.di (by decide) hl)
    replace OB := Lib.hid OB
    replace L0 := Lib.hid (L0.out.trans hl)
    clear hl
    go_wp2_with fail
    refine (Spn.spans_any L0.out.di).mono ?_
    rintro e wd2 ⟨⟨vC, C, rfl, OC, lC, bC⟩, hl⟩
    replace OA := Lib.hid (own_left OA.out L0.out.di (by decide) hl)
    replace OB := Lib.hid (own_left OB.out L0.out.di (by decide) hl)
    replace OC := Lib.hid OC
    replace L0 := Lib.hid (L0.out.trans hl)
    clear hl
    go_wp2_with fail
    have RA := Lib.hid (Rv.of OA.out lA bA)
    have RB := Lib.hid (Rv.of OB.out lB bB)
    have RC := Lib.hid (Rv.of OC.out lC bC)
    have HD := Lib.hid L0.out.di.bel
    have BC := Lib.hid (Below.refl wd2.heap.size wd2)
    clear L0 OA lA bA OB lB bB OC lC bC
    have C1 := Lib.hid (union_sv RA.out RB.out (by decide) (by decide))
    refine C1.out.mono ?_
    rintro e x1 ⟨⟨r1, rfl, S1⟩, b1⟩
    clear C1
    replace RA := Lib.hid (RA.out.keep b1)
    replace RB := Lib.hid (RB.out.keep b1)
    replace RC := Lib.hid (RC.out.keep b1)
    replace S1 := Lib.hid S1
    replace BC := Lib.hid (Buf.then_ BC.out b1)
    clear b1
    go_wp2_with fail
    have C2 := Lib.hid (union_sv RB.out RA.out (by decide) (by decide))
    refine C2.out.mono ?_
    rintro e x2 ⟨⟨r2, rfl, S2⟩, b2⟩
    clear C2
    replace RA := Lib.hid (RA.out.keep b2)
    replace RB := Lib.hid (RB.out.keep b2)
    replace RC := Lib.hid (RC.out.keep b2)
    replace S1 := Lib.hid (S1.out.keep b2)
    replace S2 := Lib.hid S2
    replace BC := Lib.hid (Buf.then_ BC.out b2)
    clear b2
    go_wp2_with fail
    have C3 := Lib.hid (same_sv S1.out S2.out (fun x => by cases hasB A x <;> cases hasB B x <;> rfl) (by decide))
    refine C3.out.mono ?_
    rintro e x3 ⟨rfl, b3⟩
    clear C3
    clear S1 S2
    replace RA := Lib.hid (RA.out.keep b3)
    replace RB := Lib.hid (RB.out.keep b3)
    replace RC := Lib.hid (RC.out.keep b3)
    replace BC := Lib.hid (Buf.then_ BC.out b3)
    clear b3
    go_wp2_with fail
    have C4 := Lib.hid (meet_sv RA.out RB.out (by decide) (by decide))
    refine C4.out.mono ?_
    rintro e x4 ⟨⟨r4, rfl, S4⟩, b4⟩
    clear C4
    replace RA := Lib.hid (RA.out.keep b4)
    replace RB := Lib.hid (RB.out.keep b4)
    replace RC := Lib.hid (RC.out.keep b4)
    replace S4 := Lib.hid S4
    replace BC := Lib.hid (Buf.then_ BC.out b4)
    clear b4
    go_wp2_with fail
    have C5 := Lib.hid (meet_sv RB.out RA.out (by decide) (by decide))
    refine C5.out.mono ?_
    rintro e x5 ⟨⟨r5, rfl, S5⟩, b5⟩
    clear C5
    replace RA := Lib.hid (RA.out.keep b5)
    replace RB := Lib.hid (RB.out.keep b5)
    replace RC := Lib.hid (RC.out.keep b5)
    replace S4 := Lib.hid (S4.out.keep b5)
    replace S5 := Lib.hid S5
    replace BC := Lib.hid (Buf.then_ BC.out b5)
    clear b5
    go_wp2_with fail
    have C6 := Lib.hid (same_sv S4.out S5.out (fun x => by cases hasB A x <;> cases hasB B x <;> rfl) (by decide))
    refine C6.out.mono ?_
    rintro e x6 ⟨rfl, b6⟩
    clear C6
    clear S4 S5
    replace RA := Lib.hid (RA.out.keep b6)
    replace RB := Lib.hid (RB.out.keep b6)
    replace RC := Lib.hid (RC.out.keep b6)
    replace BC := Lib.hid (Buf.then_ BC.out b6)
    clear b6
    go_wp2_with fail
    have C7 := Lib.hid (union_sv RB.out RC.out (by decide) (by decide))
    refine C7.out.mono ?_
    rintro e x7 ⟨⟨r7, rfl, S7⟩, b7⟩
    clear C7
    replace RA := Lib.hid (RA.out.keep b7)
    replace RB := Lib.hid (RB.out.keep b7)
    replace RC := Lib.hid (RC.out.keep b7)
    replace S7 := Lib.hid S7
    replace BC := Lib.hid (Buf.then_ BC.out b7)
    clear b7
    go_wp2_with fail
    have C8 := Lib.hid (union_sv RA.out S7.out.rv (by decide) (by decide))
    refine C8.out.mono ?_
    rintro e x8 ⟨⟨r8, rfl, S8⟩, b8⟩
    clear C8
    clear S7
    replace RA := Lib.hid (RA.out.keep b8)
    replace RB := Lib.hid (RB.out.keep b8)
    replace RC := Lib.hid (RC.out.keep b8)
    replace S8 := Lib.hid S8
    replace BC := Lib.hid (Buf.then_ BC.out b8)
    clear b8
    go_wp2_with fail
    have C9 := Lib.hid (union_sv RA.out RB.out (by decide) (by decide))
    refine C9.out.mono ?_
    rintro e x9 ⟨⟨r9, rfl, S9⟩, b9⟩
    clear C9
    replace RA := Lib.hid (RA.out.keep b9)
    replace RB := Lib.hid (RB.out.keep b9)
    replace RC := Lib.hid (RC.out.keep b9)
    replace S8 := Lib.hid (S8.out.keep b9)
    replace S9 := Lib.hid S9
    replace BC := Lib.hid (Buf.then_ BC.out b9)
    clear b9
    go_wp2_with fail
    have C10 := Lib.hid (union_sv S9.out.rv RC.out (by decide) (by decide))
    refine C10.out.mono ?_
    rintro e x10 ⟨⟨r10, rfl, S10⟩, b10⟩
    clear C10
    clear S9
    replace RA := Lib.hid (RA.out.keep b10)
    replace RB := Lib.hid (RB.out.keep b10)
    replace RC := Lib.hid (RC.out.keep b10)
    replace S8 := Lib.hid (S8.out.keep b10)
    replace S10 := Lib.hid S10
    replace BC := Lib.hid (Buf.then_ BC.out b10)
    clear b10
    go_wp2_with fail
    have C11 := Lib.hid (same_sv S8.out S10.out (fun x => by cases hasB A x <;> cases hasB B x <;> cases hasB C x <;> rfl) (by decide))
    refine C11.out.mono ?_
    rintro e x11 ⟨rfl, b11⟩
    clear C11
    clear S8 S10
    replace RA := Lib.hid (RA.out.keep b11)
    replace RB := Lib.hid (RB.out.keep b11)
    replace RC := Lib.hid (RC.out.keep b11)
    replace BC := Lib.hid (Buf.then_ BC.out b11)
    clear b11
    go_wp2_with fail
    have C12 := Lib.hid (meet_sv RB.out RC.out (by decide) (by decide))
    refine C12.out.mono ?_
    rintro e x12 ⟨⟨r12, rfl, S12⟩, b12⟩
    clear C12
    replace RA := Lib.hid (RA.out.keep b12)
    replace RB := Lib.hid (RB.out.keep b12)
    replace RC := Lib.hid (RC.out.keep b12)
    replace S12 := Lib.hid S12
    replace BC := Lib.hid (Buf.then_ BC.out b12)
    clear b12
    go_wp2_with fail
    have C13 := Lib.hid (meet_sv RA.out S12.out.rv (by decide) (by decide))
    refine C13.out.mono ?_
    rintro e x13 ⟨⟨r13, rfl, S13⟩, b13⟩
    clear C13
    clear S12
    replace RA := Lib.hid (RA.out.keep b13)
    replace RB := Lib.hid (RB.out.keep b13)
    replace RC := Lib.hid (RC.out.keep b13)
    replace S13 := Lib.hid S13
    replace BC := Lib.hid (Buf.then_ BC.out b13)
    clear b13
    go_wp2_with fail
    have C14 := Lib.hid (meet_sv RA.out RB.out (by decide) (by decide))
    refine C14.out.mono ?_
    rintro e x14 ⟨⟨r14, rfl, S14⟩, b14⟩
    clear C14
    replace RA := Lib.hid (RA.out.keep b14)
    replace RB := Lib.hid (RB.out.keep b14)
    replace RC := Lib.hid (RC.out.keep b14)
    replace S13 := Lib.hid (S13.out.keep b14)
    replace S14 := Lib.hid S14
    replace BC := Lib.hid (Buf.then_ BC.out b14)
    clear b14
    go_wp2_with fail
    have C15 := Lib.hid (meet_sv S14.out.rv RC.out (by decide) (by decide))
    refine C15.out.mono ?_
    rintro e x15 ⟨⟨r15, rfl, S15⟩, b15⟩
    clear C15
    clear S14
    replace RA := Lib.hid (RA.out.keep b15)
    replace RB := Lib.hid (RB.out.keep b15)
    replace RC := Lib.hid (RC.out.keep b15)
    replace S13 := Lib.hid (S13.out.keep b15)
    replace S15 := Lib.hid S15
    replace BC := Lib.hid (Buf.then_ BC.out b15)
    clear b15
    go_wp2_with fail
    have C16 := Lib.hid (same_sv S13.out S15.out (fun x => by cases hasB A x <;> cases hasB B x <;> cases hasB C x <;> rfl) (by decide))
    refine C16.out.mono ?_
    rintro e x16 ⟨rfl, b16⟩
    clear C16
    clear S13 S15
    replace RA := Lib.hid (RA.out.keep b16)
    replace RB := Lib.hid (RB.out.keep b16)
    replace RC := Lib.hid (RC.out.keep b16)
    replace BC := Lib.hid (Buf.then_ BC.out b16)
    clear b16
    go_wp2_with fail
    have C17 := Lib.hid (union_sv RB.out RC.out (by decide) (by decide))
    refine C17.out.mono ?_
    rintro e x17 ⟨⟨r17, rfl, S17⟩, b17⟩
    clear C17
    replace RA := Lib.hid (RA.out.keep b17)
    replace RB := Lib.hid (RB.out.keep b17)
    replace RC := Lib.hid (RC.out.keep b17)
    replace S17 := Lib.hid S17
    replace BC := Lib.hid (Buf.then_ BC.out b17)
    clear b17
    go_wp2_with fail
    have C18 := Lib.hid (meet_sv RA.out S17.out.rv (by decide) (by decide))
    refine C18.out.mono ?_
    rintro e x18 ⟨⟨r18, rfl, S18⟩, b18⟩
    clear C18
    clear S17
    replace RA := Lib.hid (RA.out.keep b18)
    replace RB := Lib.hid (RB.out.keep b18)
    replace RC := Lib.hid (RC.out.keep b18)
    replace S18 := Lib.hid S18
    replace BC := Lib.hid (Buf.then_ BC.out b18)
    clear b18
    go_wp2_with fail
    have C19 := Lib.hid (meet_sv RA.out RB.out (by decide) (by decide))
    refine C19.out.mono ?_
    rintro e x19 ⟨⟨r19, rfl, S19⟩, b19⟩
    clear C19
    replace RA := Lib.hid (RA.out.keep b19)
    replace RB := Lib.hid (RB.out.keep b19)
    replace RC := Lib.hid (RC.out.keep b19)
    replace S18 := Lib.hid (S18.out.keep b19)
    replace S19 := Lib.hid S19
    replace BC := Lib.hid (Buf.then_ BC.out b19)
    clear b19
    go_wp2_with fail
    have C20 := Lib.hid (meet_sv RA.out RC.out (by decide) (by decide))
    refine C20.out.mono ?_
    rintro e x20 ⟨⟨r20, rfl, S20⟩, b20⟩
    clear C20
    replace RA := Lib.hid (RA.out.keep b20)
    replace RB := Lib.hid (RB.out.keep b20)
    replace RC := Lib.hid (RC.out.keep b20)
    replace S18 := Lib.hid (S18.out.keep b20)
    replace S19 := Lib.hid (S19.out.keep b20)
    replace S20 := Lib.hid S20
    replace BC := Lib.hid (Buf.then_ BC.out b20)
    clear b20
    go_wp2_with fail
    have C21 := Lib.hid (union_sv S19.out.rv S20.out.rv (by decide) (by decide))
    refine C21.out.mono ?_
    rintro e x21 ⟨⟨r21, rfl, S21⟩, b21⟩
    clear C21
    clear S19 S20
    replace RA := Lib.hid (RA.out.keep b21)
    replace RB := Lib.hid (RB.out.keep b21)
    replace RC := Lib.hid (RC.out.keep b21)
    replace S18 := Lib.hid (S18.out.keep b21)
    replace S21 := Lib.hid S21
    replace BC := Lib.hid (Buf.then_ BC.out b21)
    clear b21
    go_wp2_with fail
    have C22 := Lib.hid (same_sv S18.out S21.out (fun x => by cases hasB A x <;> cases hasB B x <;> cases hasB C x <;> rfl) (by decide))
    refine C22.out.mono ?_
    rintro e x22 ⟨rfl, b22⟩
    clear C22
    clear S18 S21
    replace RA := Lib.hid (RA.out.keep b22)
    replace RB := Lib.hid (RB.out.keep b22)
    replace RC := Lib.hid (RC.out.keep b22)
    replace BC := Lib.hid (Buf.then_ BC.out b22)
    clear b22
    go_wp2_with fail
    have C23 := Lib.hid (meet_sv RB.out RC.out (by decide) (by decide))
    refine C23.out.mono ?_
    rintro e x23 ⟨⟨r23, rfl, S23⟩, b23⟩
    clear C23
    replace RA := Lib.hid (RA.out.keep b23)
    replace RB := Lib.hid (RB.out.keep b23)
    replace RC := Lib.hid (RC.out.keep b23)
    replace S23 := Lib.hid S23
    replace BC := Lib.hid (Buf.then_ BC.out b23)
    clear b23
    go_wp2_with fail
    have C24 := Lib.hid (union_sv RA.out S23.out.rv (by decide) (by decide))
    refine C24.out.mono ?_
    rintro e x24 ⟨⟨r24, rfl, S24⟩, b24⟩
    clear C24
    clear S23
    replace RA := Lib.hid (RA.out.keep b24)
    replace RB := Lib.hid (RB.out.keep b24)
    replace RC := Lib.hid (RC.out.keep b24)
    replace S24 := Lib.hid S24
    replace BC := Lib.hid (Buf.then_ BC.out b24)
    clear b24
    go_wp2_with fail
    have C25 := Lib.hid (union_sv RA.out RB.out (by decide) (by decide))
    refine C25.out.mono ?_
    rintro e x25 ⟨⟨r25, rfl, S25⟩, b25⟩
    clear C25
    replace RA := Lib.hid (RA.out.keep b25)
    replace RB := Lib.hid (RB.out.keep b25)
    replace RC := Lib.hid (RC.out.keep b25)
    replace S24 := Lib.hid (S24.out.keep b25)
    replace S25 := Lib.hid S25
    replace BC := Lib.hid (Buf.then_ BC.out b25)
    clear b25
    go_wp2_with fail
    have C26 := Lib.hid (union_sv RA.out RC.out (by decide) (by decide))
    refine C26.out.mono ?_
    rintro e x26 ⟨⟨r26, rfl, S26⟩, b26⟩
    clear C26
    replace RA := Lib.hid (RA.out.keep b26)
    replace RB := Lib.hid (RB.out.keep b26)
    replace RC := Lib.hid (RC.out.keep b26)
    replace S24 := Lib.hid (S24.out.keep b26)
    replace S25 := Lib.hid (S25.out.keep b26)
    replace S26 := Lib.hid S26
    replace BC := Lib.hid (Buf.then_ BC.out b26)
    clear b26
    go_wp2_with fail
    have C27 := Lib.hid (meet_sv S25.out.rv S26.out.rv (by decide) (by decide))
    refine C27.out.mono ?_
    rintro e x27 ⟨⟨r27, rfl, S27⟩, b27⟩
    clear C27
    clear S25 S26
    replace RA := Lib.hid (RA.out.keep b27)
    replace RB := Lib.hid (RB.out.keep b27)
    replace RC := Lib.hid (RC.out.keep b27)
    replace S24 := Lib.hid (S24.out.keep b27)
    replace S27 := Lib.hid S27
    replace BC := Lib.hid (Buf.then_ BC.out b27)
    clear b27
    go_wp2_with fail
    have C28 := Lib.hid (same_sv S24.out S27.out (fun x => by cases hasB A x <;> cases hasB B x <;> cases hasB C x <;> rfl) (by decide))
    refine C28.out.mono ?_
    rintro e x28 ⟨rfl, b28⟩
    clear C28
    clear S24 S27
    replace RA := Lib.hid (RA.out.keep b28)
    replace RB := Lib.hid (RB.out.keep b28)
    replace RC := Lib.hid (RC.out.keep b28)
    replace BC := Lib.hid (Buf.then_ BC.out b28)
    clear b28
    go_wp2_with fail
    have C29 := Lib.hid (minus_sv RA.out RB.out (by decide) (by decide))
    refine C29.out.mono ?_
    rintro e x29 ⟨⟨r29, rfl, S29⟩, b29⟩
    clear C29
    clear RC
    replace RA := Lib.hid (RA.out.keep b29)
    replace RB := Lib.hid (RB.out.keep b29)
    replace S29 := Lib.hid S29
    replace BC := Lib.hid (Buf.then_ BC.out b29)
    clear b29
    go_wp2_with fail
    have C30 := Lib.hid (meet_sv RA.out RB.out (by decide) (by decide))
    refine C30.out.mono ?_
    rintro e x30 ⟨⟨r30, rfl, S30⟩, b30⟩
    clear C30
    replace RA := Lib.hid (RA.out.keep b30)
    replace RB := Lib.hid (RB.out.keep b30)
    replace S29 := Lib.hid (S29.out.keep b30)
    replace S30 := Lib.hid S30
    replace BC := Lib.hid (Buf.then_ BC.out b30)
    clear b30
    go_wp2_with fail
    have C31 := Lib.hid (normal_sv RA.out (by decide))
    refine C31.out.mono ?_
    rintro e x31 ⟨⟨r31, rfl, S31⟩, b31⟩
    clear C31
    replace RA := Lib.hid (RA.out.keep b31)
    replace RB := Lib.hid (RB.out.keep b31)
    replace S29 := Lib.hid (S29.out.keep b31)
    replace S30 := Lib.hid (S30.out.keep b31)
    replace S31 := Lib.hid S31
    replace BC := Lib.hid (Buf.then_ BC.out b31)
    clear b31
    go_wp2_with fail
    have C32 := Lib.hid (length_sv S31.out.rv (by decide))
    refine C32.out.mono ?_
    rintro e x32 ⟨rfl, b32⟩
    clear C32
    clear S31
    replace RA := Lib.hid (RA.out.keep b32)
    replace RB := Lib.hid (RB.out.keep b32)
    replace S29 := Lib.hid (S29.out.keep b32)
    replace S30 := Lib.hid (S30.out.keep b32)
    replace BC := Lib.hid (Buf.then_ BC.out b32)
    clear b32
    go_wp2_with fail
    have C33 := Lib.hid (length_sv S29.out.rv (by decide))
    refine C33.out.mono ?_
    rintro e x33 ⟨rfl, b33⟩
    clear C33
    replace RA := Lib.hid (RA.out.keep b33)
    replace RB := Lib.hid (RB.out.keep b33)
    replace S29 := Lib.hid (S29.out.keep b33)
    replace S30 := Lib.hid (S30.out.keep b33)
    replace BC := Lib.hid (Buf.then_ BC.out b33)
    clear b33
    go_wp2_with fail
    have C34 := Lib.hid (length_sv S30.out.rv (by decide))
    refine C34.out.mono ?_
    rintro e x34 ⟨rfl, b34⟩
    clear C34
    replace RA := Lib.hid (RA.out.keep b34)
    replace RB := Lib.hid (RB.out.keep b34)
    replace S29 := Lib.hid (S29.out.keep b34)
    replace S30 := Lib.hid (S30.out.keep b34)
    replace BC := Lib.hid (Buf.then_ BC.out b34)
    clear b34
    have HS : Hid (cnt (hasB A) 0 64 = cnt (fun x => hasB A x && !hasB B x) 0 64 + cnt (fun x => hasB A x && hasB B x) 0 64) := Lib.hid (by rw [← cnt_or 0 (fun x => by cases hasB A x <;> cases hasB B x <;> simp)]; exact cnt_congr 0 (fun x => by cases hasB A x <;> cases hasB B x <;> rfl) 64)
    have n1 := cnt_nonneg (hasB A) 0 64
    have n2 := cnt_le (hasB A) 0 64
    rw [HS.out] at n1 n2
    rw [HS.out]
    have n3 := cnt_nonneg (fun x => hasB A x && !hasB B x) 0 64
    have n4 := cnt_nonneg (fun x => hasB A x && hasB B x) 0 64
    generalize cnt (fun x => hasB A x && !hasB B x) 0 64 = c1 at *
    generalize cnt (fun x => hasB A x && hasB B x) 0 64 = c2 at *
    have ws : IntKind.i64.wrap (c1 + c2) = c1 + c2 := IntWalk.i64_in _ (by omega)
    have ee : ((c1 + c2 : Int) == c1 + c2) = true := by simp
    replace HS := Lib.hid HS
    go_wp2_with fail
    have C35 := Lib.hid (union_sv S29.out.rv S30.out.rv (by decide) (by decide))
    refine C35.out.mono ?_
    rintro e x35 ⟨⟨r35, rfl, S35⟩, b35⟩
    clear C35
    replace RA := Lib.hid (RA.out.keep b35)
    replace RB := Lib.hid (RB.out.keep b35)
    replace S29 := Lib.hid (S29.out.keep b35)
    replace S30 := Lib.hid (S30.out.keep b35)
    replace S35 := Lib.hid S35
    replace BC := Lib.hid (Buf.then_ BC.out b35)
    clear b35
    go_wp2_with fail
    have C36 := Lib.hid (normal_sv RA.out (by decide))
    refine C36.out.mono ?_
    rintro e x36 ⟨⟨r36, rfl, S36⟩, b36⟩
    clear C36
    clear RA S30
    replace RB := Lib.hid (RB.out.keep b36)
    replace S29 := Lib.hid (S29.out.keep b36)
    replace S35 := Lib.hid (S35.out.keep b36)
    replace S36 := Lib.hid S36
    replace BC := Lib.hid (Buf.then_ BC.out b36)
    clear b36
    go_wp2_with fail
    have C37 := Lib.hid (same_sv S35.out S36.out (fun x => by cases hasB A x <;> cases hasB B x <;> rfl) (by decide))
    refine C37.out.mono ?_
    rintro e x37 ⟨rfl, b37⟩
    clear C37
    clear S35 S36
    replace RB := Lib.hid (RB.out.keep b37)
    replace S29 := Lib.hid (S29.out.keep b37)
    replace BC := Lib.hid (Buf.then_ BC.out b37)
    clear b37
    go_wp2_with fail
    have C38 := Lib.hid (meet_sv S29.out.rv RB.out (by decide) (by decide))
    refine C38.out.mono ?_
    rintro e x38 ⟨⟨r38, rfl, S38⟩, b38⟩
    clear C38
    clear RB S29
    replace S38 := Lib.hid S38
    replace BC := Lib.hid (Buf.then_ BC.out b38)
    clear b38
    obtain ⟨ad, cc, rfl⟩ := S38.out.none (fun x => by cases hasB A x <;> cases hasB B x <;> rfl)
    go_wp2_with fail
    refine (Spn.sane_any _).mono ?_
    rintro e x99 ⟨rfl, b99⟩
    go_wp2_with fail
    go_ret
    exact ⟨rfl, Buf.then_ HD.out (Buf.then_ BC.out b99)⟩
  · have hd : decide ((len0 : Int) ≤ 500) = false := by simp; omega
    go_enter Try.func4, Try.ntmps4
    go_wp2_with (first | (go_at_call 6; refine (light_any _ _ _ _).mono ?_; rintro e w1 ⟨rfl, rfl⟩; rw [hd]) | (go_at_call 7; refine (Spn.sane_any _).mono ?_; rintro e w2 ⟨rfl, hb⟩))
    go_ret
    exact ⟨rfl, hb⟩
end Laws
end Go.Proofs.Ytmgbkbfnkejemaa
