/- The walk of FilterConvolves. -/
import Derived.Test.YtklnohgicijloaaFilW
import Derived.Test.YtklnohgicijloaaFilR
import Derived.Test.YtklnohgicijloaaFilD
set_option linter.unusedVariables false
namespace Go.Proofs.Ytklnohgicijloaa
open Go.RowKit Wi Dice
namespace Laws
open Fil
theorem outs_len1 (T X : Nat → Int) (n s L : Nat) : (outs T X n s 1 0 L).length = L - (n - 1) := by
  by_cases h : n - 1 ≤ L
  · exact outs_one_len T X n s 0 L h
  · rw [outs_zero T X n s 1 0 L (by omega)]; simp; omega
theorem outs_at1 (T X : Nat → Int) (n s L i : Nat) (hi : i < L - (n - 1)) : fn (outs T X n s 1 0 L) i = dot T X (n - 1 + i) n / 2 ^ s := outs_one_at T X n s 0 L i (by omega) hi
theorem outs_inr {n s L : Nat} {T X : Nat → Int} (fg : FG n T 1 s) (hX : ∀ j, j < L → -1073741823 ≤ X j ∧ X j ≤ 1073741823) : ∀ j, j < L - (n - 1) → -1073741823 ≤ fn (outs T X n s 1 0 L) j ∧ fn (outs T X n s 1 0 L) j ≤ 1073741823 := by
  intro j hj
  rw [outs_at1 T X n s L j hj]
  have := fg.n1
  exact fg.out X _ (fun i hi => hX _ (by omega))
/-- One filter behind another one, and their convolution. -/
theorem conv_law {na nb sa sb L : Nat} {A B X C : Nat → Int} (fa : FG na A 1 sa) (fb : FG nb B 1 sb) (hC : ∀ j, j < na + nb - 1 → C j = row A B nb na j) (k : Nat) (hk : k < L - (na - 1) - (nb - 1)) :
    -1 ≤ fn (outs C X (na + nb - 1) (sa + sb) 1 0 L) k - fn (outs B (fn (outs A X na sa 1 0 L)) nb sb 1 0 (L - (na - 1))) k ∧
    fn (outs C X (na + nb - 1) (sa + sb) 1 0 L) k - fn (outs B (fn (outs A X na sa 1 0 L)) nb sb 1 0 (L - (na - 1))) k ≤ 1 ∧
    (sa + sb = 0 → fn (outs C X (na + nb - 1) (sa + sb) 1 0 L) k - fn (outs B (fn (outs A X na sa 1 0 L)) nb sb 1 0 (L - (na - 1))) k = 0) := by
  have n1 := fa.n1
  have n2 := fb.n1
  rw [outs_at1 C X _ _ L k (by omega), outs_at1 B _ nb sb _ k hk]
  have e1 : dot B (fn (outs A X na sa 1 0 L)) (nb - 1 + k) nb = dot B (fun m => dot A X (na - 1 + m) na / 2 ^ sa) (nb - 1 + k) nb :=
    dot_congr _ _ _ _ _ _ nb (fun j hj => ⟨rfl, outs_at1 A X na sa L _ (by omega)⟩)
  have e2 : dot C X (na + nb - 1 - 1 + k) (na + nb - 1) = conv B A X na (na - 1 + (nb - 1 + k)) nb := by
    rw [show na + nb - 1 - 1 + k = na - 1 + (nb - 1 + k) by omega, ← dot_row B A X na (na - 1 + (nb - 1 + k)) (na + nb - 1) (by omega) nb (by omega)]
    exact dot_congr _ _ _ _ _ _ _ (fun j hj => ⟨by rw [hC j hj, row_swap], rfl⟩)
  have p1 := pow_bd30 sa fa.s2
  have p2 := pow_bd30 sb fb.s2
  obtain ⟨E, c1, c2, c3⟩ := conv_round A B X (fun m => dot A X (na - 1 + m) na / 2 ^ sa) na nb (nb - 1 + k) (2 ^ sa) p1.1 (by omega) (fun m => rfl) nb (Nat.le_refl _)
  have h3 := Int.mul_le_mul_of_nonneg_right fb.sum (show (0 : Int) ≤ 2 ^ sa - 1 by omega)
  rw [e1, e2, c1, Int.pow_add]
  obtain ⟨g1, g2, g3⟩ := round_two (dot B (fun m => dot A X (na - 1 + m) na / 2 ^ sa) (nb - 1 + k) nb) E (2 ^ sa) (2 ^ sb) p1.1 p2.1 (by omega) (by omega)
  exact ⟨g1, g2, fun h => g3 (by rw [show sa = 0 by omega]; rfl)⟩
theorem fg_conv {na nb sa sb : Nat} {A B C : Nat → Int} (fa : FG na A 1 sa) (fb : FG nb B 1 sb) (na5 : na ≤ 5) (nb5 : nb ≤ 5) (sa6 : sa ≤ 6) (sb6 : sb ≤ 6) (hC : ∀ j, j < na + nb - 1 → C j = row A B nb na j) : FG (na + nb - 1) C 1 (sa + sb) := by
  have n1 := fa.n1
  have n2 := fb.n1
  refine ⟨by omega, by omega, by omega, by decide, by decide, ?_⟩
  rw [absum_congr C (row A B nb na) _ hC, Int.pow_add]
  have p1 := pow_bd30 sa fa.s2
  exact Int.le_trans (absum_row A B nb _ na) (Int.mul_le_mul fa.sum fb.sum (absum_nn _ _) (by omega))
set_option maxHeartbeats 8000000 in
set_option maxRecDepth 100000 in
theorem filterConvolves_walk (a0 : Option Addr) (len0 cap0 : Nat) (z0 : List Int) (w : World) (w0 : Buf.IsRow .i64 w a0 len0 cap0 z0) :
    Calls Try.prog 5 #[.slice a0 len0 cap0] w fun e w' => e = .returned (.bool true) ∧ Below w.heap.size w w' := by
  by_cases hs : len0 ≤ 500
  · have hd : decide ((len0 : Int) ≤ 500) = true := by simp; omega
    go_enter Try.func5, Try.ntmps5
    go_wp2_with (first | (go_at_call 9; refine (light_any _ _ _ _).mono ?_; rintro e w1 ⟨rfl, rfl⟩; rw [hd]) | (go_at_call 11; refine (roll_any a0 len0 cap0 z0 _ w0 hs).mono ?_; rintro e w2 ⟨rfl, hdi⟩))
    refine (filter_any hdi).mono ?_
    rintro e w3 ⟨⟨v1, l1, fac1, s1, rfl, ho1, fg1, hl15, _, hs16⟩, hl⟩
    have hd2 := hdi.lt
    have D3 := Lib.hid hl.di
    have h23 : w2.heap.size ≤ w3.heap.size := hl.far.size
    clear hl hdi
    go_wp2_with fail
    refine (filter_any D3.out).mono ?_
    rintro e w4 ⟨⟨v2, l2, fac2, s2, rfl, ho2, fg2, hl25, _, hs26⟩, hl⟩
    have O1 := Lib.hid (own_grown ho1 hl.far hd2)
    have O2 := Lib.hid (ho2.mono h23)
    have D4 := Lib.hid hl.di
    have h24 : w2.heap.size ≤ w4.heap.size := Nat.le_trans h23 hl.far.size
    obtain ⟨va, vc, rfl⟩ := own_len O1.out
    obtain ⟨ua, uc, rfl⟩ := own_len O2.out
    have FA := Lib.hid (fg1.fac 1 (by decide) (by decide))
    have FB := Lib.hid (fg2.fac 1 (by decide) (by decide))
    rw [ints_len] at O1 O2 ⊢
    rw [ints_len]
    clear hl ho1 ho2 fg1 fg2 D3
    go_wp2_with fail
    have hB1 : ((w4.alloc (.cells #[.slice va l1.length vc, .int .i64 1, .int .i64 s1] 28)).alloc (.cells #[.slice ua l2.length uc, .int .i64 1, .int .i64 s2] 28)).heap.size = w4.heap.size + 1 + 1 := by simp
    have TA := (heap_alloc_old (w4.alloc (.cells #[.slice va l1.length vc, .int .i64 1, .int .i64 s1] 28)) (.cells #[.slice ua l2.length uc, .int .i64 1, .int .i64 s2] 28) (by simp)).trans (heap_alloc_new w4 (.cells #[.slice va l1.length vc, .int .i64 1, .int .i64 s1] 28))
    have TB : ((w4.alloc (.cells #[.slice va l1.length vc, .int .i64 1, .int .i64 s1] 28)).alloc (.cells #[.slice ua l2.length uc, .int .i64 1, .int .i64 s2] 28)).heap[w4.heap.size + 1]? = some (.cells #[.slice ua l2.length uc, .int .i64 1, .int .i64 s2] 28) := by
      have e : (w4.alloc (.cells #[.slice va l1.length vc, .int .i64 1, .int .i64 s1] 28)).heap.size = w4.heap.size + 1 := by simp
      rw [← e]; exact heap_alloc_new _ _
    have hbB : Below w4.heap.size w4 ((w4.alloc (.cells #[.slice va l1.length vc, .int .i64 1, .int .i64 s1] 28)).alloc (.cells #[.slice ua l2.length uc, .int .i64 1, .int .i64 s2] 28)) := (new_block _).alloc (by simp) _
    generalize (w4.alloc (.cells #[.slice va l1.length vc, .int .i64 1, .int .i64 s1] 28)).alloc (.cells #[.slice ua l2.length uc, .int .i64 1, .int .i64 s2] 28) = wB at *
    have O1B := O1.out.below hbB
    have O2B := O2.out.below hbB
    have DB := D4.out.below hbB
    have h2B : w2.heap.size ≤ wB.heap.size := by omega
    refine (convolve_any (sv_own O1B) (sv_own O2B) FA.out FB.out hl15 hl25 hs16 hs26).mono ?_
    rintro e w5 ⟨⟨vc5, lc, rfl, hoc, hlc, hvc⟩, hb⟩
    obtain ⟨ca, cc, rfl⟩ := own_len hoc
    rw [ints_len] at hoc ⊢
    obtain ⟨s12, hs12⟩ : ∃ t, t = s1 + s2 := ⟨_, rfl⟩
    rw [← hs12]
    replace hs12 := Lib.hid hs12
    have O1C := O1B.below hb
    have O2C := O2B.below hb
    have DC := DB.below hb
    have TA5 := box3 TA hb
    have TB5 := box3 TB hb
    have OC := hoc.mono h2B
    have h25 : w2.heap.size ≤ w5.heap.size := Nat.le_trans h2B hb.size
    have TC := heap_alloc_new w5 (.cells #[.slice ca lc.length cc, .int .i64 1, .int .i64 (s12 : Int)] 28)
    have hb5 : Below w5.heap.size w5 (w5.alloc (.cells #[.slice ca lc.length cc, .int .i64 1, .int .i64 (s12 : Int)] 28)) := new_block _
    have lt5 := (Array.getElem?_eq_some_iff.1 TB5).1
    obtain ⟨x0, x1, x2⟩ := cells3 (box3 TA5 hb5)
    obtain ⟨y0, y1, y2⟩ := cells3 (box3 TB5 hb5)
    have P1 := Lib.hid O1C
    have P2 := Lib.hid O2C
    have P3 := Lib.hid DC
    have P4 := Lib.hid TA5
    have P5 := Lib.hid TB5
    have P6 := Lib.hid OC
    have P7 := Lib.hid TC
    have P8 := Lib.hid hb5
    have P9 := Lib.hid hlc
    have P10 := Lib.hid hvc
    clear O1C O2C DC TA5 TB5 OC TC hb5 hlc hvc hoc hb O1B O2B DB TA TB hbB hB1 O1 O2 D4
    go_wp2_with fail
    generalize w5.alloc (.cells #[.slice ca lc.length cc, .int .i64 1, .int .i64 (s12 : Int)] 28) = w6 at *
    clear x0 x1 x2 y0 y1 y2
    have O1D := P1.out.below P8.out
    have O2D := P2.out.below P8.out
    refine (convolve_any (sv_own O2D) (sv_own O1D) FB.out FA.out hl25 hl15 hs26 hs16).mono ?_
    rintro e w7 ⟨⟨vo7, lo, rfl, hoo, hlo, hvo⟩, hb⟩
    obtain ⟨oa, oc, rfl⟩ := own_len hoo
    rw [ints_len] at hoo ⊢
    rw [Nat.add_comm s2 s1, ← hs12.out]
    have h27 : w2.heap.size ≤ w7.heap.size := by have := P8.out.size; have := hb.size; omega
    have hb7 : Below w7.heap.size w7 (w7.alloc (.cells #[.slice oa lo.length oc, .int .i64 1, .int .i64 (s12 : Int)] 28)) := new_block _
    have Q1 := Lib.hid ((O1D.below hb).below hb7)
    have Q2 := Lib.hid ((O2D.below hb).below hb7)
    have Q3 := Lib.hid (((P3.out.below P8.out).below hb).below hb7)
    have Q4 := Lib.hid (box3 (box3 (box3 P4.out P8.out) hb) hb7)
    have Q5 := Lib.hid (box3 (box3 (box3 P5.out P8.out) hb) hb7)
    have Q6 := Lib.hid (((P6.out.below P8.out).below hb).below hb7)
    have Q7 := Lib.hid (box3 (box3 P7.out hb) hb7)
    have Q8 := Lib.hid ((hoo.mono (show w2.heap.size ≤ w6.heap.size by have := P8.out.size; omega)).below hb7)
    have Q9 := Lib.hid (heap_alloc_new w7 (.cells #[.slice oa lo.length oc, .int .i64 1, .int .i64 (s12 : Int)] 28))
    have R1 := Lib.hid hlo
    have R2 := Lib.hid hvo
    clear hb hb7 hoo hlo hvo P1 P2 P3 P4 P5 P6 P7 P8 O1D O2D lt5
    go_wp2_with fail
    generalize w7.alloc (.cells #[.slice oa lo.length oc, .int .i64 1, .int .i64 (s12 : Int)] 28) = w8 at *
    refine (samples_any 24 (by decide) (by decide) Q3.out).mono ?_
    rintro e w9 ⟨⟨xv, lx, rfl, hox, hinx, hx1, hx2⟩, hl⟩
    have hdB : w1.heap.size < w2.heap.size := hd2
    have D9 := Lib.hid hl.di.bel
    have h29 : w2.heap.size ≤ w8.heap.size := by have := (Array.getElem?_eq_some_iff.1 Q9.out).1; omega
    have N1 := Lib.hid (sv_own (own_grown Q1.out hl.far hdB))
    have N2 := Lib.hid (sv_own (own_grown Q2.out hl.far hdB))
    have N6 := Lib.hid (sv_own (own_grown Q6.out hl.far hdB))
    have N8 := Lib.hid (sv_own (own_grown Q8.out hl.far hdB))
    have NX := Lib.hid (sv_own hox)
    have N4 := Lib.hid ((hl.far.block _ (Array.getElem?_eq_some_iff.1 Q4.out).1 (by simp; omega)).trans Q4.out)
    have N5 := Lib.hid ((hl.far.block _ (Array.getElem?_eq_some_iff.1 Q5.out).1 (by simp; omega)).trans Q5.out)
    have N7 := Lib.hid ((hl.far.block _ (Array.getElem?_eq_some_iff.1 Q7.out).1 (by simp; omega)).trans Q7.out)
    have N9 := Lib.hid ((hl.far.block _ (Array.getElem?_eq_some_iff.1 Q9.out).1 (by simp; omega)).trans Q9.out)
    obtain ⟨xa, xc, rfl⟩ := own_len hox
    rw [ints_len] at NX ⊢
    have hC := Lib.hid P10.out
    have hinX := Lib.hid hinx
    have FC := Lib.hid (fg_conv FA.out FB.out hl15 hl25 hs16 hs26 P10.out)
    clear hl hox hinx Q1 Q2 Q3 Q4 Q5 Q6 Q7 Q8 Q9 P10
    have eo : lo.length = lc.length := by rw [R1.out, P9.out]; omega
    rw [eo] at N8 N9 ⊢
    have HV : Hid (∀ j, j < lc.length → fn lc j = fn lo j) := Lib.hid fun j hj => by
      rw [hC.out j (by rw [← P9.out]; exact hj), R2.out j (by rw [← R1.out, eo]; exact hj), row_swap]
    replace eo := Lib.hid eo
    have FC' : Hid (FG lc.length (fn lc) 1 s12) := Lib.hid (by rw [P9.out, hs12.out]; exact FC.out)
    have hlc9 : lc.length ≤ 9 := by have := P9.out; omega
    have hL24 : lx.length ≤ 24 := hx2
    have CL := Lib.hid fun k hk => conv_law (L := lx.length) (X := fn lx) FA.out FB.out hC.out k hk
    rw [← P9.out, ← hs12.out] at CL
    have PI := Lib.hid (outs_inr (L := lx.length) (X := fn lx) FA.out hinX.out)
    have QI := Lib.hid (outs_inr (L := lx.length - (l1.length - 1)) FB.out PI.out)
    have RI := Lib.hid (outs_inr (L := lx.length) (X := fn lx) FC'.out hinX.out)
    have hlq : Hid (lx.length - (l1.length - 1) - (l2.length - 1) = lx.length - (lc.length - 1)) := Lib.hid (by have := P9.out; have := FA.out.n1; have := FB.out.n1; omega)
    obtain ⟨x0, x1, x2⟩ := cells3 N4.out
    go_wp2_with fail
    refine (apply_any 0 N1.out NX.out FA.out (by omega) hinX.out (by decide) (by decide)).mono ?_
    rintro e w10 ⟨⟨pv, rfl, hp⟩, hb⟩
    have BW := Lib.hid hb
    have SP := Lib.hid (sv_own hp)
    rw [outs_len1] at SP
    clear hb hp x0 x1 x2
    obtain ⟨x0, x1, x2⟩ := cells3 (box3 N5.out BW.out)
    obtain ⟨pa, pc, rfl, _⟩ := SP.out
    go_wp2_with fail
    refine (apply_any 0 (N2.out.below BW.out) SP.out FB.out (by omega) PI.out (by decide) (by decide)).mono ?_
    rintro e w11 ⟨⟨qv, rfl, hq⟩, hb⟩
    replace BW := Lib.hid (Buf.then_ BW.out hb)
    have SQ := Lib.hid (sv_own hq)
    rw [outs_len1] at SQ
    clear hb hq x0 x1 x2 SP
    obtain ⟨x0, x1, x2⟩ := cells3 (box3 N7.out BW.out)
    obtain ⟨qa, qc, rfl, _⟩ := SQ.out
    go_wp2_with fail
    refine (apply_any 0 (N6.out.below BW.out) (NX.out.below BW.out) FC'.out (by omega) hinX.out (by decide) (by decide)).mono ?_
    rintro e w12 ⟨⟨rv, rfl, hr⟩, hb⟩
    replace BW := Lib.hid (Buf.then_ BW.out hb)
    have SR := Lib.hid (sv_own hr)
    rw [outs_len1] at SR
    replace SQ := Lib.hid (SQ.out.below hb)
    clear hb hr x0 x1 x2
    obtain ⟨x0, x1, x2⟩ := cells3 (box3 N7.out BW.out)
    obtain ⟨y0, y1, y2⟩ := cells3 (box3 N9.out BW.out)
    obtain ⟨ra, rc, rfl, _⟩ := SR.out
    rw [hlq.out] at SQ QI CL ⊢
    go_wp2_with fail
    refine (refsame_yes (N6.out.below BW.out) (N8.out.below BW.out) HV.out (by omega)).mono ?_
    rintro e w13 ⟨rfl, hb⟩
    replace BW := Lib.hid (Buf.then_ BW.out hb)
    replace SQ := Lib.hid (SQ.out.below hb)
    replace SR := Lib.hid (SR.out.below hb)
    clear hb x0 x1 x2 y0 y1 y2
    obtain ⟨x0, x1, x2⟩ := cells3 (box3 N7.out BW.out)
    go_wp2_with fail
    refine (refvalid_yes (N6.out.below BW.out) FC'.out).mono ?_
    rintro e w14 ⟨rfl, hb⟩
    replace BW := Lib.hid (Buf.then_ BW.out hb)
    replace SQ := Lib.hid (SQ.out.below hb)
    replace SR := Lib.hid (SR.out.below hb)
    clear hb x0 x1 x2
    obtain ⟨m, hm⟩ : ∃ m, lx.length - (lc.length - 1) = m := ⟨_, rfl⟩
    rw [hm] at SQ SR QI RI CL ⊢
    have hm24 : m ≤ 24 := by omega
    have emm : ((m : Int) == (m : Int)) = true := by simp
    replace hm := Lib.hid hm
    generalize fn (outs (fn lc) (fn lx) lc.length s12 1 0 lx.length) = R at *
    generalize fn (outs (fn l2) (fn (outs (fn l1) (fn lx) l1.length s1 1 0 lx.length)) l2.length s2 1 0 (lx.length - (l1.length - 1))) = Q at *
    clear N1 N2 N6 N7 N8 N9 NX P9 R1 R2 HV FC FC' PI hlq hC hinX eo FA FB
    go_wp2_with fail
    go_loopw [101] (fun i wr => ∃ q : Nat, q ≤ m ∧ i = .int .i64 q ∧ Hid (∃ n, wr = w14.drewN n)) (fun i _ => m - (intOf i).toNat)
    case atStart => exact ⟨0, by omega, rfl, Lib.hid ⟨0, rfl⟩⟩
    case round =>
      obtain ⟨q, hq, rfl, hw⟩ := hrel
      obtain ⟨n, rfl⟩ := hw.out
      by_cases hlt : q < m
      · obtain ⟨rb, roff, rfl, cr⟩ := SR.out.at q hlt
        obtain ⟨qb, qoff, rfl, cq⟩ := SQ.out.at q hlt
        obtain ⟨r1, r2⟩ := RI.out q hlt
        obtain ⟨q1, q2⟩ := QI.out q hlt
        obtain ⟨d1, d2, d3⟩ := CL.out q hlt
        obtain ⟨x0, x1, x2⟩ := cells3 (box3 N4.out BW.out)
        obtain ⟨y0, y1, y2⟩ := cells3 (box3 N5.out BW.out)
        have hs := hs12.out
        generalize R q = rv at *
        generalize Q q = qv at *
        have h3 : rv - qv = 0 ∨ rv - qv = 1 ∨ rv - qv = -1 := by omega
        have hs0 : rv - qv ≠ 0 → ((s1 : Int) + (s2 : Int) == 0) = false := fun h => by
          rw [beq_eq_false_iff_ne]
          intro h'
          exact h (d3 (by omega))
        replace hs0 := Lib.hid hs0
        clear d1 d2 d3 hs hw
        rcases h3 with hz | hz | hz
        · clear hs0
          go_wp2_with fail
          go_quiet (fail)
          go_wp2_with fail
          first
            | exact ⟨⟨q + 1, by omega, by go_num, Lib.hid ⟨_, rfl⟩⟩, by simp [intOf]; omega⟩
            | (go_roundw
               case rel => exact ⟨q + 1, by omega, by go_num, Lib.hid ⟨_, rfl⟩⟩
               case measure => simp [intOf]; omega)
        · have hs1 := hs0.out (by omega)
          clear hs0
          go_wp2_with fail
          go_quiet (fail)
          go_wp2_with fail
          first
            | exact ⟨⟨q + 1, by omega, by go_num, Lib.hid ⟨_, rfl⟩⟩, by simp [intOf]; omega⟩
            | (go_roundw
               case rel => exact ⟨q + 1, by omega, by go_num, Lib.hid ⟨_, rfl⟩⟩
               case measure => simp [intOf]; omega)
        · have hs1 := hs0.out (by omega)
          clear hs0
          go_wp2_with fail
          go_quiet (fail)
          go_wp2_with fail
          first
            | exact ⟨⟨q + 1, by omega, by go_num, Lib.hid ⟨_, rfl⟩⟩, by simp [intOf]; omega⟩
            | (go_roundw
               case rel => exact ⟨q + 1, by omega, by go_num, Lib.hid ⟨_, rfl⟩⟩
               case measure => simp [intOf]; omega)
      · obtain rfl : q = m := by omega
        have WW := Lib.hid (Buf.below_drewN (D9.out.trans (BW.out.mono D9.out.size)) n)
        clear hw
        go_wp2_with (go_at_call 10; refine (Fil.sane_any _).mono ?_; rintro e w15 ⟨rfl, hb⟩)
        go_ret
        exact ⟨rfl, Buf.then_ WW.out hb⟩
  · have hd : decide ((len0 : Int) ≤ 500) = false := by simp; omega
    go_enter Try.func5, Try.ntmps5
    go_wp2_with (first | (go_at_call 9; refine (light_any _ _ _ _).mono ?_; rintro e w1 ⟨rfl, rfl⟩; rw [hd]) | (go_at_call 10; refine (Fil.sane_any _).mono ?_; rintro e w2 ⟨rfl, hb⟩))
    go_ret
    exact ⟨rfl, hb⟩
end Laws
end Go.Proofs.Ytklnohgicijloaa
