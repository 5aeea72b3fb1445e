/- The walk of SpanNumbers. -/
import Derived.Test.YtmgbkbfnkejemaaSpnJ
import Derived.Test.YtmgbkbfnkejemaaInv
set_option linter.unusedVariables false
set_option linter.unusedSimpArgs false
namespace Go.Proofs.Ytmgbkbfnkejemaa
open Go.RowKit Dice
namespace Spn
open Sp (own_left)
theorem firstL_length : ∀ (l : LP) (n : Int), (firstL l n).length ≤ l.length
  | [], _ => by simp [firstL]
  | p :: t, n => by
    unfold firstL
    split
    · simp
    · split
      · simp
      · have := firstL_length t (n - (p.2 - p.1))
        simp only [List.length_cons]
        omega
theorem first_sv {w : World} {v : Value} {f : Int → Bool} {k : Nat} (nn : Int) (h : Rv w v f k) (hk : k ≤ 100) (n0 : 0 ≤ nn) (n9 : nn ≤ 1000) :
    Calls Try.prog 20 #[v, .int .i64 nn] w fun e w' => (∃ r N, e = .returned r ∧ Is N f ∧ N.length ≤ k ∧ Inside N 0 64 ∧ Its w' r (firstL N nn)) ∧ Below w.heap.size w w' := by
  obtain ⟨L, h1, h2, h3, h4⟩ := h
  refine (first_any nn h1 (fun p hp => by have := h4 p hp; omega) (by omega) n0 (by omega)).mono ?_
  rintro e w' ⟨⟨r, N, hN, hl, rfl, O⟩, b⟩
  exact ⟨⟨r, N, rfl, hN.congr h2, by omega, inside_of_bd hN.canon fun x hx => by rw [hN.has] at hx; exact bd_of_inside h4 hx, its_of_own O⟩, b⟩
theorem shift_sv {w : World} {v : Value} {f : Int → Bool} {k : Nat} (d : Int) (h : Rv w v f k) (hk : k ≤ 100) (d0 : -2147483648 ≤ d) (d9 : d ≤ 2147483648) :
    Calls Try.prog 21 #[v, .int .i64 d] w fun e w' => (∃ r N, e = .returned (.tuple #[r, .int .i64 0]) ∧ Is N f ∧ N.length ≤ k ∧ Inside N 0 64 ∧ Its w' r (moveL N d)) ∧ Below w.heap.size w w' := by
  obtain ⟨L, h1, h2, h3, h4⟩ := h
  refine (shift_any d h1 (fun p hp => by have := h4 p hp; omega) (by omega) (by omega) (by omega)).mono ?_
  rintro e w' ⟨⟨r, N, hN, hl, rfl, O⟩, b⟩
  exact ⟨⟨r, N, rfl, hN.congr h2, by omega, inside_of_bd hN.canon fun x hx => by rw [hN.has] at hx; exact bd_of_inside h4 hx, its_of_own O⟩, b⟩
theorem cnt_len {N : LP} {f : Int → Bool} (h : Is N f) (hI : Inside N 0 64) : lenL N = cnt f 0 64 := by
  have : Inside N 0 (0 + (64 : Nat)) := hI
  rw [lenL_cnt h.canon this, cnt_congr 0 h.has]
theorem first_rest {N F R u t : LP} {f : Int → Bool} {nn : Int} {p q : Int × Int} (hN : Is N f) (n0 : 0 ≤ nn) (hF : F = firstL N nn) (hR : Is R (fun x => f x && !hasB F x)) (e1 : F = u ++ [p]) (e2 : R = q :: t) : p.2 ≤ q.1 := by
  obtain ⟨s1, s2, s3, s4, s5⟩ := firstL_spec hN.canon nn n0
  rw [← hF] at s1 s4
  have h1 := s1.one p (by rw [e1]; simp)
  have h2 := hR.canon.one q (by rw [e2]; simp)
  have h3 : hasB F (p.2 - 1) = true := hasB_iff.2 ⟨p, by rw [e1]; simp, by omega, by omega⟩
  have h4 : hasB R q.1 = true := hasB_iff.2 ⟨q, by rw [e2]; simp, by omega, h2⟩
  rw [hR.has, Bool.and_eq_true_iff] at h4
  have := s4 (p.2 - 1) q.1 h3 (by rw [hN.has]; exact h4.1) (by simpa using h4.2)
  omega
end Spn
namespace Laws
open Spn
open Sp (own_left)
set_option maxHeartbeats 16000000 in
set_option maxRecDepth 100000 in
theorem spanNumbers_walk (a0 : Option Addr) (len0 cap0 : Nat) (z0 : List Int) (a1 : Int) (a2 : Int) (w : World) (w0 : Buf.IsRow .i64 w a0 len0 cap0 z0) (w1 : (Lit.int .u8 a1).wf = true) (w2 : (Lit.int .i32 a2).wf = true) :
    Calls Try.prog 5 #[.slice a0 len0 cap0, .int .u8 a1, .int .i32 a2] w fun e w' => e = .returned (.bool true) ∧ Below w.heap.size w w' := by
  obtain ⟨n0, n1⟩ := Ma.wf_u8 w1
  obtain ⟨d0, d1⟩ : -2147483648 ≤ a2 ∧ a2 ≤ 2147483647 := by
    simp [Lit.wf, IntKind.bits, IntKind.signed, IntKind.min, IntKind.max] at w2
    omega
  have dn : IntKind.i64.wrap (-a2) = -a2 := IntWalk.i64_in _ (by omega)
  by_cases hs : len0 ≤ 500
  · have hd : decide ((len0 : Int) ≤ 500) = true := by simp; omega
    go_enter Try.func5, Try.ntmps5
    go_wp2_with (first | (go_at_call 6; refine (light_any _ _ _ _).mono ?_; rintro e w1 ⟨rfl, rfl⟩; rw [hd]) | (go_at_call 8; refine (roll_any a0 len0 cap0 z0 _ w0 hs).mono ?_; rintro e w2 ⟨rfl, hdi⟩))
    have L0 := Lib.hid (Dice.Left.refl hdi)
    clear hdi
    refine (Spn.spans_any L0.out.di).mono ?_
    rintro e wd ⟨⟨vA, A, rfl, OA, lA, bA⟩, hl⟩
    replace L0 := Lib.hid (L0.out.trans hl)
    have RA := Lib.hid (Rv.of OA lA bA)
    have HD := Lib.hid L0.out.di.bel
    clear hl OA lA bA L0
    obtain ⟨nn, hnn⟩ : ∃ nn, nn = a1 % 20 := ⟨_, rfl⟩
    have x0 : 0 ≤ nn := by rw [hnn]; omega
    have x9 : nn < 20 := by rw [hnn]; omega
    obtain ⟨c, hcc⟩ : ∃ c, c = cnt (hasB A) 0 64 := ⟨_, rfl⟩
    have c0 : 0 ≤ c := by rw [hcc]; exact cnt_nonneg _ _ _
    have c9 : c ≤ 64 := by rw [hcc]; exact cnt_le _ _ _
    have C1 := length_sv RA.out (by decide)
    rw [← hcc] at C1
    replace C1 := Lib.hid C1
    replace hcc := Lib.hid hcc
    go_wp2_with fail
    refine C1.out.mono ?_
    rintro e x1 ⟨rfl, b1⟩
    have BC := Lib.hid b1
    replace RA := Lib.hid (RA.out.keep b1)
    clear b1 C1
    go_wp2_with fail
    rw [← hnn]
    replace hnn : a1 % 20 = nn := hnn.symm
    have C2 := Lib.hid (first_sv nn RA.out (by decide) x0 (by omega))
    refine C2.out.mono ?_
    rintro e x2 ⟨⟨vF, N, rfl, HN, hlN, hIN, IF⟩, b2⟩
    clear C2
    obtain ⟨F, hF⟩ : ∃ F, F = firstL N nn := ⟨_, rfl⟩
    rw [← hF] at IF
    have SP := firstL_spec HN.canon nn x0
    rw [← hF] at SP
    have hlF : F.length ≤ 5 := by rw [hF]; exact Nat.le_trans (firstL_length N nn) hlN
    have hIF : Inside F 0 64 := inside_of_bd SP.1 fun x hx => by have := SP.2.2.1 x hx; exact bd_of_inside hIN this
    have hcN : lenL N = c := by rw [cnt_len HN hIN, ← hcc.out]
    have hcF : cnt (hasB F) 0 64 = min nn c := by rw [← cnt_len (Is.self SP.1) hIF, SP.2.1, hcN]
    have RF : Hid (Rv x2 vF (hasB F) 5) := Lib.hid ⟨F, IF, fun _ => rfl, hlF, hIF⟩
    replace IF := Lib.hid IF
    replace RA := Lib.hid (RA.out.keep b2)
    replace BC := Lib.hid (Buf.then_ BC.out b2)
    replace HN := Lib.hid HN
    replace hIN := Lib.hid hIN
    replace hlN := Lib.hid hlN
    replace hF := Lib.hid hF
    replace SP := Lib.hid SP
    replace hcN := Lib.hid hcN
    clear b2 hIF
    have C3 := length_sv RF.out (by decide)
    rw [hcF] at C3
    replace C3 := Lib.hid C3
    clear hcF
    go_wp2_with fail
    refine C3.out.mono ?_
    rintro e x3 ⟨rfl, b3⟩
    replace RA := Lib.hid (RA.out.keep b3)
    replace RF := Lib.hid (RF.out.keep b3)
    replace IF := Lib.hid (IF.out.keep b3)
    replace BC := Lib.hid (Buf.then_ BC.out b3)
    clear b3 C3
    have C4 := Lib.hid (minus_sv RA.out RF.out (by decide) (by decide))
    go_wp2_with fail
    refine C4.out.mono ?_
    rintro e x4 ⟨⟨vR, rfl, SR⟩, b4⟩
    replace RA := Lib.hid (RA.out.keep b4)
    clear RF
    replace IF := Lib.hid (IF.out.keep b4)
    replace BC := Lib.hid (Buf.then_ BC.out b4)
    obtain ⟨R, IR, HR, hlR, hIR⟩ := SR
    have HRR := Lib.hid HR
    clear b4 C4 hlR hIR HR
    have dk : decide (min nn c = min nn c) = true := by simp
    have HFR := Lib.hid fun (u t : LP) (p q : Int × Int) (e1 : F = u ++ [p]) (e2 : R = q :: t) => first_rest HN.out x0 hF.out HRR.out e1 e2
    obtain ⟨adF, cF, rfl, hcF, fF⟩ := its_form IF.out
    obtain ⟨adR, cR, rfl, hcR, fR⟩ := its_form IR
    clear IF IR
    rcases snoc_cases F with rfl | ⟨u, ⟨p1, p2⟩, rfl⟩
    · clear fF fR HFR
      go_wp2_with fail
      go_quiet (fail)
      have BQ := Lib.hid (Buf.below_drewN BC.out nq)
      have RQ := Lib.hid (RA.out.keep (Buf.below_drewN (Below.refl _ x4) nq))
      generalize x4.drewN nq = y4 at *
      clear BC RA
      have C5 := Lib.hid (shift_sv a2 RQ.out (by decide) d0 (by omega))
      go_wp2_with fail
      refine C5.out.mono ?_
      rintro e x5 ⟨⟨vX, N2, rfl, HN2, l2, I2, IX⟩, b5⟩
      obtain rfl := HN2.unique HN.out
      replace BQ := Lib.hid (Buf.then_ BQ.out b5)
      replace RQ := Lib.hid (RQ.out.keep b5)
      clear C5 b5 HN2 l2 I2
      have hMI : Inside (moveL N2 a2) (-1152921504606846976) 1152921504606846976 := fun p hp => by have := moveL_inside hIN.out a2 p hp; omega
      have hML : (moveL N2 a2).length ≤ 5 := by rw [moveL_length]; exact hlN.out
      have C6 := Lib.hid (shift_any (-a2) IX hMI (by omega) (by omega) (by omega))
      replace IX := Lib.hid IX
      go_wp2_with fail
      refine C6.out.mono ?_
      rintro e x6 ⟨⟨vY, N3, HN3, l3, rfl, OY⟩, b6⟩
      obtain rfl := HN3.unique (Is.self (moveL_canon HN.out.canon a2))
      rw [moveL_back] at OY
      have IY := Lib.hid (its_of_own OY)
      replace BQ := Lib.hid (Buf.then_ BQ.out b6)
      replace RQ := Lib.hid (RQ.out.keep b6)
      replace IX := Lib.hid (IX.out.keep b6)
      clear C6 b6 HN3 l3 OY
      have C7 := Lib.hid (length_any IX.out hMI (by omega))
      go_wp2_with fail
      refine C7.out.mono ?_
      rintro e x7 ⟨⟨N4, HN4, rfl⟩, b7⟩
      obtain rfl := HN4.unique (Is.self (moveL_canon HN.out.canon a2))
      rw [moveL_len, hcN.out]
      replace BQ := Lib.hid (Buf.then_ BQ.out b7)
      have RA7 := Lib.hid (RQ.out.keep b7)
      replace IX := Lib.hid (IX.out.keep b7)
      have SY7 : Hid (Sv x7 vY (hasB A) 5) := Lib.hid ⟨N2, IY.out.keep b7, HN.out, hlN.out, hIN.out⟩
      replace IY := Lib.hid (IY.out.keep b7)
      clear C7 b7 HN4 RQ hMI hML
      obtain ⟨adX, cX, rfl, hcX, fX⟩ := its_form IX.out
      obtain ⟨adY, cY, rfl, hcY, fY⟩ := its_form IY.out
      clear IX IY
      replace SP := SP
      clear SP hF HRR hcN
      rcases hNN : N2 with _ | ⟨⟨q1, q2⟩, tl⟩
      · have SY7n : Hid (Sv x7 (.slice adY 0 cY) (hasB A) 5) := by rw [hNN] at SY7; exact SY7
        replace SY7 := SY7n
        clear SY7n
        rw [hNN] at *
        clear fX fY hNN hcX hcY hIN hlN HN
        have lx0 : (moveL [] a2).length = 0 := rfl
        rw [lx0]
        clear lx0
        try clear hlF
        try clear hcF
        go_wp2_with fail
        refine wp_region_noPanic ?_
        refine wp_region_any (by kernel_rfl) ?_
        refine Inv.wpAny_inv (fun k => false) [104, 105, 106, 107, 108, 109, 110, 111, 112, 113, 114, 115, 116, 117, 118, 119, 120, 121, 122, 123, 124, 125, 126, 127, 128, 129, 130, 131, 132, 133, 134, 135, 136, 137, 138, 139, 140, 141, 142, 143, 144, 145, 6] (fun w' => Below x7.heap.size x7 w') (fun _ w1 w2 => Below w1.heap.size w1 w2) (fun k => ([fun v_ w_ => v_ = .int .i64 0, fun v_ w_ => v_ = .bool true, fun v_ w_ => v_ = .bool true, fun v_ w_ => v_ = .int .i64 0, fun v_ w_ => v_ = .bool true, fun v_ w_ => v_ = .bool true, fun v_ w_ => v_ = .bool true, fun v_ w_ => v_ = .bool true, fun v_ w_ => v_ = .bool true, fun v_ w_ => v_ = .bool true, fun v_ w_ => v_ = .int .i64 c, fun v_ w_ => v_ = .int .i64 c, fun v_ w_ => v_ = .bool true, fun v_ w_ => v_ = .bool true, fun v_ w_ => v_ = .bool true, fun v_ w_ => v_ = .slice adY 0 cY, fun v_ w_ => v_ = vA, fun v_ w_ => Sv w_ v_ (hasB A) 5, fun v_ w_ => v_ = .bool true, fun v_ w_ => v_ = .bool true, fun v_ w_ => v_ = .bool true, fun v_ w_ => v_ = .slice adX 0 cX, fun v_ w_ => v_ = .int .i64 0, fun v_ w_ => v_ = .bool true, fun v_ w_ => v_ = .bool true, fun v_ w_ => True, fun v_ w_ => True, fun v_ w_ => True, fun v_ w_ => True, fun v_ w_ => True, fun v_ w_ => True, fun v_ w_ => True, fun v_ w_ => True, fun v_ w_ => True, fun v_ w_ => True, fun v_ w_ => True, fun v_ w_ => True, fun v_ w_ => v_ = .bool true, fun v_ w_ => v_ = .bool true, fun v_ w_ => v_ = .bool true, fun v_ w_ => v_ = .bool true, fun v_ w_ => v_ = .bool true, fun v_ w_ => v_ = .bool true] : List (Value → World → Prop)).getD k (fun _ _ => True)) _ (fun σ => by simp only [Inv.putAll, List.foldl_cons, List.foldl_nil, Act.put, List.setIfInBounds_toArray, List.set_cons_zero, List.set_cons_succ]; rfl) (by kernel_rfl) (by kernel_rfl) ?_ ((Below.refl x7.heap.size x7).drew) ?_ ?_ 0 #[true, true, true, true, true, true, true, true, true, true, true, true, true, true, true, true, true, true, true, true, true, true, true, true, true, true, true, true, true, true, true, true, true, true, true, true, true, true, true, true, true, true, true] (by kernel_rfl) (by kernel_rfl) ?_
        · intro j k v w1 w2 hjk hv hr
          rcases k with _ | k
          · exact hv
          rcases k with _ | k
          · exact hv
          rcases k with _ | k
          · exact hv
          rcases k with _ | k
          · exact hv
          rcases k with _ | k
          · exact hv
          rcases k with _ | k
          · exact hv
          rcases k with _ | k
          · exact hv
          rcases k with _ | k
          · exact hv
          rcases k with _ | k
          · exact hv
          rcases k with _ | k
          · exact hv
          rcases k with _ | k
          · exact hv
          rcases k with _ | k
          · exact hv
          rcases k with _ | k
          · exact hv
          rcases k with _ | k
          · exact hv
          rcases k with _ | k
          · exact hv
          rcases k with _ | k
          · exact hv
          rcases k with _ | k
          · exact hv
          rcases k with _ | k
          · exact (hv.keep hr)
          rcases k with _ | k
          · exact hv
          rcases k with _ | k
          · exact hv
          rcases k with _ | k
          · exact hv
          rcases k with _ | k
          · exact hv
          rcases k with _ | k
          · exact hv
          rcases k with _ | k
          · exact hv
          rcases k with _ | k
          · exact hv
          rcases k with _ | k
          · exact hv
          rcases k with _ | k
          · exact hv
          rcases k with _ | k
          · exact hv
          rcases k with _ | k
          · exact hv
          rcases k with _ | k
          · exact hv
          rcases k with _ | k
          · exact hv
          rcases k with _ | k
          · exact hv
          rcases k with _ | k
          · exact hv
          rcases k with _ | k
          · exact hv
          rcases k with _ | k
          · exact hv
          rcases k with _ | k
          · exact hv
          rcases k with _ | k
          · exact hv
          rcases k with _ | k
          · exact hv
          rcases k with _ | k
          · exact hv
          rcases k with _ | k
          · exact hv
          rcases k with _ | k
          · exact hv
          rcases k with _ | k
          · exact hv
          rcases k with _ | k
          · exact hv
          · exact hv
        · intro k t hl hd
          rcases k with _ | k
          · exact absurd hl (by decide +kernel)
          rcases k with _ | k
          · exact absurd hl (by decide +kernel)
          rcases k with _ | k
          · exact absurd hl (by decide +kernel)
          rcases k with _ | k
          · exact absurd hl (by decide +kernel)
          rcases k with _ | k
          · exact absurd hl (by decide +kernel)
          rcases k with _ | k
          · exact absurd hl (by decide +kernel)
          rcases k with _ | k
          · exact absurd hl (by decide +kernel)
          rcases k with _ | k
          · exact absurd hl (by decide +kernel)
          rcases k with _ | k
          · exact absurd hl (by decide +kernel)
          rcases k with _ | k
          · exact absurd hl (by decide +kernel)
          rcases k with _ | k
          · exact absurd hl (by decide +kernel)
          rcases k with _ | k
          · exact absurd hl (by decide +kernel)
          rcases k with _ | k
          · exact absurd hl (by decide +kernel)
          rcases k with _ | k
          · exact absurd hl (by decide +kernel)
          rcases k with _ | k
          · exact absurd hl (by decide +kernel)
          rcases k with _ | k
          · exact absurd hl (by decide +kernel)
          rcases k with _ | k
          · exact absurd hl (by decide +kernel)
          rcases k with _ | k
          · exact absurd hl (by decide +kernel)
          rcases k with _ | k
          · exact absurd hl (by decide +kernel)
          rcases k with _ | k
          · exact absurd hl (by decide +kernel)
          rcases k with _ | k
          · exact absurd hl (by decide +kernel)
          rcases k with _ | k
          · exact absurd hl (by decide +kernel)
          rcases k with _ | k
          · exact absurd hl (by decide +kernel)
          rcases k with _ | k
          · exact absurd hl (by decide +kernel)
          rcases k with _ | k
          · exact absurd hl (by decide +kernel)
          rcases k with _ | k
          · exact absurd hl (by decide +kernel)
          rcases k with _ | k
          · exact absurd hl (by decide +kernel)
          rcases k with _ | k
          · exact absurd hl (by decide +kernel)
          rcases k with _ | k
          · exact absurd hl (by decide +kernel)
          rcases k with _ | k
          · exact absurd hl (by decide +kernel)
          rcases k with _ | k
          · exact absurd hl (by decide +kernel)
          rcases k with _ | k
          · exact absurd hl (by decide +kernel)
          rcases k with _ | k
          · exact absurd hl (by decide +kernel)
          rcases k with _ | k
          · exact absurd hl (by decide +kernel)
          rcases k with _ | k
          · exact absurd hl (by decide +kernel)
          rcases k with _ | k
          · exact absurd hl (by decide +kernel)
          rcases k with _ | k
          · exact absurd hl (by decide +kernel)
          rcases k with _ | k
          · exact absurd hl (by decide +kernel)
          rcases k with _ | k
          · exact absurd hl (by decide +kernel)
          rcases k with _ | k
          · exact absurd hl (by decide +kernel)
          rcases k with _ | k
          · exact absurd hl (by decide +kernel)
          rcases k with _ | k
          · exact absurd hl (by decide +kernel)
          rcases k with _ | k
          · exact absurd hl (by decide +kernel)
          · simp at hd
        · show Inv.Steps _ _ _ _ _ _ _ _ [0, 1, 2, 3, 4, 5, 6, 7, 8, 9, 10, 11, 12, 13, 14, 15, 16, 17, 18, 19, 20, 21, 22, 23, 24, 25, 26, 27, 28, 29, 30, 31, 32, 33, 34, 35, 36, 37, 38, 39, 40, 41, 42]
          refine Inv.Steps.go (by decide) (by rfl) (fun σ wx hw hd K hK => ?_) ?_
          · simp only [List.getElem_toArray, List.getElem_cons_zero, List.getElem_cons_succ, Act.put, List.setIfInBounds_toArray, List.set_cons_zero, List.set_cons_succ] at hK ⊢
            go_simp
            exact hK.out _ _ hw (Below.refl _ _) (rfl)
          refine Inv.Steps.go (by decide) (by rfl) (fun σ wx hw hd K hK => ?_) ?_
          · obtain e104 : (σ 104) = .int .i64 0 := hd 0 (some 104) (by kernel_rfl) (by rfl)
            simp only [List.getElem_toArray, List.getElem_cons_zero, List.getElem_cons_succ, Act.put, List.setIfInBounds_toArray, List.set_cons_zero, List.set_cons_succ, e104] at hK ⊢
            go_simp
            exact hK.out _ _ hw (Below.refl _ _) (rfl)
          refine Inv.Steps.go (by decide) (by rfl) (fun σ wx hw hd K hK => ?_) ?_
          · obtain e105 : (σ 105) = .bool true := hd 1 (some 105) (by kernel_rfl) (by rfl)
            simp only [List.getElem_toArray, List.getElem_cons_zero, List.getElem_cons_succ, Act.put, List.setIfInBounds_toArray, List.set_cons_zero, List.set_cons_succ, e105] at hK ⊢
            go_simp
            exact hK.out _ _ hw (Below.refl _ _) (rfl)
          refine Inv.Steps.on (by decide) 2 106 true (by rfl) (by rfl) (fun σ wx hw hd => ?_) ?_
          · obtain e106 : (σ 106) = .bool true := hd 2 (some 106) (by kernel_rfl) (by rfl)
            refine ⟨by simp [e106], fun K hK => ?_⟩
            simp only [List.getElem_toArray, List.getElem_cons_zero, List.getElem_cons_succ, Act.put, List.setIfInBounds_toArray, List.set_cons_zero, List.set_cons_succ, e106] at hK ⊢
            go_simp
            exact hK.out _ _ hw (Below.refl _ _) (rfl)
          refine Inv.Steps.on (by decide) 2 106 true (by rfl) (by rfl) (fun σ wx hw hd => ?_) ?_
          · obtain e107 : (σ 107) = .int .i64 0 := hd 3 (some 107) (by kernel_rfl) (by rfl)
            obtain e106 : (σ 106) = .bool true := hd 2 (some 106) (by kernel_rfl) (by rfl)
            refine ⟨by simp [e106], fun K hK => ?_⟩
            simp only [List.getElem_toArray, List.getElem_cons_zero, List.getElem_cons_succ, Act.put, List.setIfInBounds_toArray, List.set_cons_zero, List.set_cons_succ, e107, e106] at hK ⊢
            go_simp
            exact hK.out _ _ hw (Below.refl _ _) (rfl)
          refine Inv.Steps.go (by decide) (by rfl) (fun σ wx hw hd K hK => ?_) ?_
          · obtain e106 : (σ 106) = .bool true := hd 2 (some 106) (by kernel_rfl) (by rfl)
            obtain e108 : (σ 108) = .bool true := hd 4 (some 108) (by kernel_rfl) (by rfl)
            simp only [List.getElem_toArray, List.getElem_cons_zero, List.getElem_cons_succ, Act.put, List.setIfInBounds_toArray, List.set_cons_zero, List.set_cons_succ, e106, e108] at hK ⊢
            go_simp
            exact hK.out _ _ hw (Below.refl _ _) (rfl)
          refine Inv.Steps.go (by decide) (by rfl) (fun σ wx hw hd K hK => ?_) ?_
          · obtain e109 : (σ 109) = .bool true := hd 5 (some 109) (by kernel_rfl) (by rfl)
            simp only [List.getElem_toArray, List.getElem_cons_zero, List.getElem_cons_succ, Act.put, List.setIfInBounds_toArray, List.set_cons_zero, List.set_cons_succ, e109] at hK ⊢
            go_simp
            exact hK.out _ _ hw (Below.refl _ _) (rfl)
          refine Inv.Steps.on (by decide) 6 110 true (by rfl) (by rfl) (fun σ wx hw hd => ?_) ?_
          · obtain e110 : (σ 110) = .bool true := hd 6 (some 110) (by kernel_rfl) (by rfl)
            refine ⟨by simp [e110], fun K hK => ?_⟩
            simp only [List.getElem_toArray, List.getElem_cons_zero, List.getElem_cons_succ, Act.put, List.setIfInBounds_toArray, List.set_cons_zero, List.set_cons_succ, e110] at hK ⊢
            go_simp
            exact hK.out _ _ hw (Below.refl _ _) (rfl)
          refine Inv.Steps.go (by decide) (by rfl) (fun σ wx hw hd K hK => ?_) ?_
          · obtain e110 : (σ 110) = .bool true := hd 6 (some 110) (by kernel_rfl) (by rfl)
            obtain e111 : (σ 111) = .bool true := hd 7 (some 111) (by kernel_rfl) (by rfl)
            simp only [List.getElem_toArray, List.getElem_cons_zero, List.getElem_cons_succ, Act.put, List.setIfInBounds_toArray, List.set_cons_zero, List.set_cons_succ, e110, e111] at hK ⊢
            go_simp
            exact hK.out _ _ hw (Below.refl _ _) (rfl)
          refine Inv.Steps.go (by decide) (by rfl) (fun σ wx hw hd K hK => ?_) ?_
          · obtain e112 : (σ 112) = .bool true := hd 8 (some 112) (by kernel_rfl) (by rfl)
            simp only [List.getElem_toArray, List.getElem_cons_zero, List.getElem_cons_succ, Act.put, List.setIfInBounds_toArray, List.set_cons_zero, List.set_cons_succ, e112] at hK ⊢
            go_simp
            exact hK.out _ _ hw (Below.refl _ _) (rfl)
          refine Inv.Steps.on (by decide) 9 113 true (by rfl) (by rfl) (fun σ wx hw hd => ?_) ?_
          · obtain e113 : (σ 113) = .bool true := hd 9 (some 113) (by kernel_rfl) (by rfl)
            refine ⟨by simp [e113], fun K hK => ?_⟩
            simp only [List.getElem_toArray, List.getElem_cons_zero, List.getElem_cons_succ, Act.put, List.setIfInBounds_toArray, List.set_cons_zero, List.set_cons_succ, e113] at hK ⊢
            go_simp
            exact hK.out _ _ hw (Below.refl _ _) (rfl)
          refine Inv.Steps.on (by decide) 9 113 true (by rfl) (by rfl) (fun σ wx hw hd => ?_) ?_
          · obtain e113 : (σ 113) = .bool true := hd 9 (some 113) (by kernel_rfl) (by rfl)
            refine ⟨by simp [e113], fun K hK => ?_⟩
            simp only [List.getElem_toArray, List.getElem_cons_zero, List.getElem_cons_succ, Act.put, List.setIfInBounds_toArray, List.set_cons_zero, List.set_cons_succ, e113] at hK ⊢
            go_simp
            exact hK.out _ _ hw (Below.refl _ _) (rfl)
          refine Inv.Steps.on (by decide) 9 113 true (by rfl) (by rfl) (fun σ wx hw hd => ?_) ?_
          · obtain e114 : (σ 114) = .int .i64 c := hd 10 (some 114) (by kernel_rfl) (by rfl)
            obtain e115 : (σ 115) = .int .i64 c := hd 11 (some 115) (by kernel_rfl) (by rfl)
            obtain e113 : (σ 113) = .bool true := hd 9 (some 113) (by kernel_rfl) (by rfl)
            refine ⟨by simp [e113], fun K hK => ?_⟩
            simp only [List.getElem_toArray, List.getElem_cons_zero, List.getElem_cons_succ, Act.put, List.setIfInBounds_toArray, List.set_cons_zero, List.set_cons_succ, e114, e115, e113] at hK ⊢
            go_simp
            exact hK.out _ _ hw (Below.refl _ _) (rfl)
          refine Inv.Steps.go (by decide) (by rfl) (fun σ wx hw hd K hK => ?_) ?_
          · obtain e113 : (σ 113) = .bool true := hd 9 (some 113) (by kernel_rfl) (by rfl)
            obtain e116 : (σ 116) = .bool true := hd 12 (some 116) (by kernel_rfl) (by rfl)
            simp only [List.getElem_toArray, List.getElem_cons_zero, List.getElem_cons_succ, Act.put, List.setIfInBounds_toArray, List.set_cons_zero, List.set_cons_succ, e113, e116] at hK ⊢
            go_simp
            exact hK.out _ _ hw (Below.refl _ _) (rfl)
          refine Inv.Steps.go (by decide) (by rfl) (fun σ wx hw hd K hK => ?_) ?_
          · obtain e117 : (σ 117) = .bool true := hd 13 (some 117) (by kernel_rfl) (by rfl)
            simp only [List.getElem_toArray, List.getElem_cons_zero, List.getElem_cons_succ, Act.put, List.setIfInBounds_toArray, List.set_cons_zero, List.set_cons_succ, e117] at hK ⊢
            go_simp
            exact hK.out _ _ hw (Below.refl _ _) (rfl)
          refine Inv.Steps.on (by decide) 14 118 true (by rfl) (by rfl) (fun σ wx hw hd => ?_) ?_
          · obtain e118 : (σ 118) = .bool true := hd 14 (some 118) (by kernel_rfl) (by rfl)
            refine ⟨by simp [e118], fun K hK => ?_⟩
            simp only [List.getElem_toArray, List.getElem_cons_zero, List.getElem_cons_succ, Act.put, List.setIfInBounds_toArray, List.set_cons_zero, List.set_cons_succ, e118] at hK ⊢
            go_simp
            exact hK.out _ _ hw (Below.refl _ _) (rfl)
          refine Inv.Steps.on (by decide) 14 118 true (by rfl) (by rfl) (fun σ wx hw hd => ?_) ?_
          · obtain e118 : (σ 118) = .bool true := hd 14 (some 118) (by kernel_rfl) (by rfl)
            refine ⟨by simp [e118], fun K hK => ?_⟩
            simp only [List.getElem_toArray, List.getElem_cons_zero, List.getElem_cons_succ, Act.put, List.setIfInBounds_toArray, List.set_cons_zero, List.set_cons_succ, e118] at hK ⊢
            go_simp
            exact hK.out _ _ hw (Below.refl _ _) (rfl)
          refine Inv.Steps.on (by decide) 14 118 true (by rfl) (by rfl) (fun σ wx hw hd => ?_) ?_
          · obtain e120 : (σ 120) = vA := hd 16 (some 120) (by kernel_rfl) (by rfl)
            obtain e118 : (σ 118) = .bool true := hd 14 (some 118) (by kernel_rfl) (by rfl)
            refine ⟨by simp [e118], fun K hK => ?_⟩
            simp only [List.getElem_toArray, List.getElem_cons_zero, List.getElem_cons_succ, Act.put, List.setIfInBounds_toArray, List.set_cons_zero, List.set_cons_succ, e120, e118] at hK ⊢
            go_simp
            go_at_call 14
            refine (normal_sv (RA7.out.keep hw) (by decide)).mono ?_
            rintro e wy ⟨⟨r8, rfl, S8⟩, hb⟩
            dsimp only
            exact hK.out _ _ (Buf.then_ hw hb) hb (S8)
          refine Inv.Steps.on (by decide) 14 118 true (by rfl) (by rfl) (fun σ wx hw hd => ?_) ?_
          · obtain e119 : (σ 119) = .slice adY 0 cY := hd 15 (some 119) (by kernel_rfl) (by rfl)
            obtain e121 : Sv wx (σ 121) (hasB A) 5 := hd 17 (some 121) (by kernel_rfl) (by rfl)
            obtain e118 : (σ 118) = .bool true := hd 14 (some 118) (by kernel_rfl) (by rfl)
            refine ⟨by simp [e118], fun K hK => ?_⟩
            simp only [List.getElem_toArray, List.getElem_cons_zero, List.getElem_cons_succ, Act.put, List.setIfInBounds_toArray, List.set_cons_zero, List.set_cons_succ, e119, e118] at hK ⊢
            go_simp
            go_at_call 18
            refine (same_sv (SY7.out.keep hw) e121 (fun _ => rfl) (by decide)).mono ?_
            rintro e wy ⟨rfl, hb⟩
            dsimp only
            exact hK.out _ _ (Buf.then_ hw hb) hb (rfl)
          refine Inv.Steps.go (by decide) (by rfl) (fun σ wx hw hd K hK => ?_) ?_
          · obtain e118 : (σ 118) = .bool true := hd 14 (some 118) (by kernel_rfl) (by rfl)
            obtain e122 : (σ 122) = .bool true := hd 18 (some 122) (by kernel_rfl) (by rfl)
            simp only [List.getElem_toArray, List.getElem_cons_zero, List.getElem_cons_succ, Act.put, List.setIfInBounds_toArray, List.set_cons_zero, List.set_cons_succ, e118, e122] at hK ⊢
            go_simp
            exact hK.out _ _ hw (Below.refl _ _) (rfl)
          refine Inv.Steps.go (by decide) (by rfl) (fun σ wx hw hd K hK => ?_) ?_
          · obtain e123 : (σ 123) = .bool true := hd 19 (some 123) (by kernel_rfl) (by rfl)
            simp only [List.getElem_toArray, List.getElem_cons_zero, List.getElem_cons_succ, Act.put, List.setIfInBounds_toArray, List.set_cons_zero, List.set_cons_succ, e123] at hK ⊢
            go_simp
            exact hK.out _ _ hw (Below.refl _ _) (rfl)
          refine Inv.Steps.on (by decide) 20 124 true (by rfl) (by rfl) (fun σ wx hw hd => ?_) ?_
          · obtain e124 : (σ 124) = .bool true := hd 20 (some 124) (by kernel_rfl) (by rfl)
            refine ⟨by simp [e124], fun K hK => ?_⟩
            simp only [List.getElem_toArray, List.getElem_cons_zero, List.getElem_cons_succ, Act.put, List.setIfInBounds_toArray, List.set_cons_zero, List.set_cons_succ, e124] at hK ⊢
            go_simp
            exact hK.out _ _ hw (Below.refl _ _) (rfl)
          refine Inv.Steps.on (by decide) 20 124 true (by rfl) (by rfl) (fun σ wx hw hd => ?_) ?_
          · obtain e125 : (σ 125) = .slice adX 0 cX := hd 21 (some 125) (by kernel_rfl) (by rfl)
            obtain e124 : (σ 124) = .bool true := hd 20 (some 124) (by kernel_rfl) (by rfl)
            refine ⟨by simp [e124], fun K hK => ?_⟩
            simp only [List.getElem_toArray, List.getElem_cons_zero, List.getElem_cons_succ, Act.put, List.setIfInBounds_toArray, List.set_cons_zero, List.set_cons_succ, e125, e124] at hK ⊢
            go_simp
            exact hK.out _ _ hw (Below.refl _ _) (rfl)
          refine Inv.Steps.on (by decide) 20 124 true (by rfl) (by rfl) (fun σ wx hw hd => ?_) ?_
          · obtain e126 : (σ 126) = .int .i64 0 := hd 22 (some 126) (by kernel_rfl) (by rfl)
            obtain e124 : (σ 124) = .bool true := hd 20 (some 124) (by kernel_rfl) (by rfl)
            refine ⟨by simp [e124], fun K hK => ?_⟩
            simp only [List.getElem_toArray, List.getElem_cons_zero, List.getElem_cons_succ, Act.put, List.setIfInBounds_toArray, List.set_cons_zero, List.set_cons_succ, e126, e124] at hK ⊢
            go_simp
            exact hK.out _ _ hw (Below.refl _ _) (rfl)
          refine Inv.Steps.on (by decide) 20 124 true (by rfl) (by rfl) (fun σ wx hw hd => ?_) ?_
          · obtain e127 : (σ 127) = .bool true := hd 23 (some 127) (by kernel_rfl) (by rfl)
            obtain e124 : (σ 124) = .bool true := hd 20 (some 124) (by kernel_rfl) (by rfl)
            refine ⟨by simp [e124], fun K hK => ?_⟩
            simp only [List.getElem_toArray, List.getElem_cons_zero, List.getElem_cons_succ, Act.put, List.setIfInBounds_toArray, List.set_cons_zero, List.set_cons_succ, e127, e124] at hK ⊢
            go_simp
            exact hK.out _ _ hw (Below.refl _ _) (rfl)
          refine Inv.Steps.off (by decide) 24 128 false (.bool true) (by rfl) (by rfl) (by first | exact .inl rfl | exact .inr rfl) (fun σ wx hw hd => ?_) ?_
          · obtain e128 : (σ 128) = .bool true := hd 24 (some 128) (by kernel_rfl) (by rfl)
            exact ⟨by simp [e128], (Below.refl _ _), trivial⟩
          refine Inv.Steps.off (by decide) 24 128 false (.bool true) (by rfl) (by rfl) (by first | exact .inl rfl | exact .inr rfl) (fun σ wx hw hd => ?_) ?_
          · obtain e128 : (σ 128) = .bool true := hd 24 (some 128) (by kernel_rfl) (by rfl)
            exact ⟨by simp [e128], (Below.refl _ _), trivial⟩
          refine Inv.Steps.off (by decide) 24 128 false (.bool true) (by rfl) (by rfl) (by first | exact .inl rfl | exact .inr rfl) (fun σ wx hw hd => ?_) ?_
          · obtain e128 : (σ 128) = .bool true := hd 24 (some 128) (by kernel_rfl) (by rfl)
            exact ⟨by simp [e128], (Below.refl _ _), trivial⟩
          refine Inv.Steps.off (by decide) 24 128 false (.bool true) (by rfl) (by rfl) (by first | exact .inl rfl | exact .inr rfl) (fun σ wx hw hd => ?_) ?_
          · obtain e128 : (σ 128) = .bool true := hd 24 (some 128) (by kernel_rfl) (by rfl)
            exact ⟨by simp [e128], (Below.refl _ _), trivial⟩
          refine Inv.Steps.off (by decide) 24 128 false (.bool true) (by rfl) (by rfl) (by first | exact .inl rfl | exact .inr rfl) (fun σ wx hw hd => ?_) ?_
          · obtain e128 : (σ 128) = .bool true := hd 24 (some 128) (by kernel_rfl) (by rfl)
            exact ⟨by simp [e128], (Below.refl _ _), trivial⟩
          refine Inv.Steps.off (by decide) 24 128 false (.bool true) (by rfl) (by rfl) (by first | exact .inl rfl | exact .inr rfl) (fun σ wx hw hd => ?_) ?_
          · obtain e128 : (σ 128) = .bool true := hd 24 (some 128) (by kernel_rfl) (by rfl)
            exact ⟨by simp [e128], (Below.refl _ _), trivial⟩
          refine Inv.Steps.off (by decide) 24 128 false (.bool true) (by rfl) (by rfl) (by first | exact .inl rfl | exact .inr rfl) (fun σ wx hw hd => ?_) ?_
          · obtain e128 : (σ 128) = .bool true := hd 24 (some 128) (by kernel_rfl) (by rfl)
            exact ⟨by simp [e128], (Below.refl _ _), trivial⟩
          refine Inv.Steps.off (by decide) 24 128 false (.bool true) (by rfl) (by rfl) (by first | exact .inl rfl | exact .inr rfl) (fun σ wx hw hd => ?_) ?_
          · obtain e128 : (σ 128) = .bool true := hd 24 (some 128) (by kernel_rfl) (by rfl)
            exact ⟨by simp [e128], (Below.refl _ _), trivial⟩
          refine Inv.Steps.off (by decide) 24 128 false (.bool true) (by rfl) (by rfl) (by first | exact .inl rfl | exact .inr rfl) (fun σ wx hw hd => ?_) ?_
          · obtain e128 : (σ 128) = .bool true := hd 24 (some 128) (by kernel_rfl) (by rfl)
            exact ⟨by simp [e128], (Below.refl _ _), trivial⟩
          refine Inv.Steps.off (by decide) 24 128 false (.bool true) (by rfl) (by rfl) (by first | exact .inl rfl | exact .inr rfl) (fun σ wx hw hd => ?_) ?_
          · obtain e128 : (σ 128) = .bool true := hd 24 (some 128) (by kernel_rfl) (by rfl)
            exact ⟨by simp [e128], (Below.refl _ _), trivial⟩
          refine Inv.Steps.off (by decide) 24 128 false (.bool true) (by rfl) (by rfl) (by first | exact .inl rfl | exact .inr rfl) (fun σ wx hw hd => ?_) ?_
          · obtain e128 : (σ 128) = .bool true := hd 24 (some 128) (by kernel_rfl) (by rfl)
            exact ⟨by simp [e128], (Below.refl _ _), trivial⟩
          refine Inv.Steps.off (by decide) 24 128 false (.bool true) (by rfl) (by rfl) (by first | exact .inl rfl | exact .inr rfl) (fun σ wx hw hd => ?_) ?_
          · obtain e128 : (σ 128) = .bool true := hd 24 (some 128) (by kernel_rfl) (by rfl)
            exact ⟨by simp [e128], (Below.refl _ _), trivial⟩
          refine Inv.Steps.on (by decide) 20 124 true (by rfl) (by rfl) (fun σ wx hw hd => ?_) ?_
          · obtain e128 : (σ 128) = .bool true := hd 24 (some 128) (by kernel_rfl) (by rfl)
            obtain e124 : (σ 124) = .bool true := hd 20 (some 124) (by kernel_rfl) (by rfl)
            refine ⟨by simp [e124], fun K hK => ?_⟩
            simp only [List.getElem_toArray, List.getElem_cons_zero, List.getElem_cons_succ, Act.put, List.setIfInBounds_toArray, List.set_cons_zero, List.set_cons_succ, e128, e124] at hK ⊢
            go_simp
            exact hK.out _ _ hw (Below.refl _ _) (rfl)
          refine Inv.Steps.go (by decide) (by rfl) (fun σ wx hw hd K hK => ?_) ?_
          · obtain e124 : (σ 124) = .bool true := hd 20 (some 124) (by kernel_rfl) (by rfl)
            obtain e141 : (σ 141) = .bool true := hd 37 (some 141) (by kernel_rfl) (by rfl)
            simp only [List.getElem_toArray, List.getElem_cons_zero, List.getElem_cons_succ, Act.put, List.setIfInBounds_toArray, List.set_cons_zero, List.set_cons_succ, e124, e141] at hK ⊢
            go_simp
            exact hK.out _ _ hw (Below.refl _ _) (rfl)
          refine Inv.Steps.go (by decide) (by rfl) (fun σ wx hw hd K hK => ?_) ?_
          · obtain e142 : (σ 142) = .bool true := hd 38 (some 142) (by kernel_rfl) (by rfl)
            simp only [List.getElem_toArray, List.getElem_cons_zero, List.getElem_cons_succ, Act.put, List.setIfInBounds_toArray, List.set_cons_zero, List.set_cons_succ, e142] at hK ⊢
            go_simp
            exact hK.out _ _ hw (Below.refl _ _) (rfl)
          refine Inv.Steps.on (by decide) 39 143 true (by rfl) (by rfl) (fun σ wx hw hd => ?_) ?_
          · obtain e143 : (σ 143) = .bool true := hd 39 (some 143) (by kernel_rfl) (by rfl)
            refine ⟨by simp [e143], fun K hK => ?_⟩
            simp only [List.getElem_toArray, List.getElem_cons_zero, List.getElem_cons_succ, Act.put, List.setIfInBounds_toArray, List.set_cons_zero, List.set_cons_succ, e143] at hK ⊢
            go_simp
            go_at_call 7
            refine (Spn.sane_any _).mono ?_
            rintro e wy ⟨rfl, hb⟩
            dsimp only
            exact hK.out _ _ (Buf.then_ hw hb) hb (rfl)
          refine Inv.Steps.go (by decide) (by rfl) (fun σ wx hw hd K hK => ?_) ?_
          · obtain e143 : (σ 143) = .bool true := hd 39 (some 143) (by kernel_rfl) (by rfl)
            obtain e144 : (σ 144) = .bool true := hd 40 (some 144) (by kernel_rfl) (by rfl)
            simp only [List.getElem_toArray, List.getElem_cons_zero, List.getElem_cons_succ, Act.put, List.setIfInBounds_toArray, List.set_cons_zero, List.set_cons_succ, e143, e144] at hK ⊢
            go_simp
            exact hK.out _ _ hw (Below.refl _ _) (rfl)
          refine Inv.Steps.go (by decide) (by rfl) (fun σ wx hw hd K hK => ?_) ?_
          · obtain e145 : (σ 145) = .bool true := hd 41 (some 145) (by kernel_rfl) (by rfl)
            simp only [List.getElem_toArray, List.getElem_cons_zero, List.getElem_cons_succ, Act.put, List.setIfInBounds_toArray, List.set_cons_zero, List.set_cons_succ, e145] at hK ⊢
            go_simp
            exact hK.out _ _ hw (Below.refl _ _) (rfl)
          exact Inv.Steps.nil
        · intro σ wx hw hd
          obtain e6 : (σ 6) = .bool true := hd 42 (some 6) (by rfl) (by rfl)
          refine Inv.done (by kernel_rfl) (NoPanic.normal ?_)
          rw [e6]
          clear e6 hd
          replace hw := Lib.hid hw
          go_wp2_with fail
          go_ret
          exact ⟨rfl, Buf.then_ HD.out (BQ.out.trans (hw.out.mono BQ.out.size))⟩
      · obtain ⟨gx, rfl, hgx, u0, u1⟩ := fX 0 (q1 + a2, q2 + a2) (by rw [hNN]; rfl)
        obtain ⟨gy, rfl, hgy, v0, v1⟩ := fY 0 (q1, q2) (by rw [hNN]; rfl)
        have V : Hid (∀ w', Below x7.heap.size x7 w' → w'.cell? ⟨gx, 0, none⟩ = some (.int .i64 (q1 + a2)) ∧ w'.cell? ⟨gy, 0, none⟩ = some (.int .i64 q1)) := Lib.hid fun w' h => ⟨(h.cell (p := ⟨gx, _, none⟩) hgx).trans u0, (h.cell (p := ⟨gy, _, none⟩) hgy).trans v0⟩
        have i1 := hIN.out (q1, q2) (by rw [hNN]; simp)
        have i2 := HN.out.canon.one (q1, q2) (by rw [hNN]; simp)
        dsimp only at i1 i2
        obtain ⟨nX, hnX⟩ : ∃ nX, nX = (moveL N2 a2).length := ⟨_, rfl⟩
        obtain ⟨nY, hnY⟩ : ∃ nY, nY = N2.length := ⟨_, rfl⟩
        have x0' : 0 < nX := by rw [hnX, moveL_length, hNN]; simp
        have y0' : 0 < nY := by rw [hnY, hNN]; simp
        have dX : ((nX : Int) == 0) = false := by simp; omega
        have dX' : decide ((nX : Int) = 0) = false := by simp; omega
        have dX'' : decide (nX = 0) = false := by simp; omega
        have bX : (0 : Int) < nX := by omega
        have bY : (0 : Int) < nY := by omega
        have ws2 : IntKind.i64.wrap a2 = a2 := IntWalk.i64_in _ (by omega)
        have ws : IntKind.i64.wrap (q1 + a2) = q1 + a2 := IntWalk.i64_in _ (by omega)
        rw [← hNN, ← hnX, ← hnY]
        rw [← hnX] at hcX
        rw [← hnY] at hcY SY7
        replace hnX := Lib.hid hnX
        replace hnY := Lib.hid hnY
        replace hNN := Lib.hid hNN
        clear fX fY u0 u1 v0 v1
        have CNd := Lib.hid (normal_sv (RA7.out.keep (Below.refl _ x7).drew) (by decide))
        have SYd := Lib.hid (SY7.out.keep (Below.refl _ x7).drew)
        have BD := Lib.hid (show Below x7.heap.size x7 x7.drew from (Below.refl _ x7).drew)
        have BD' := BD.out
        go_wp2_with fail
        go_region_held3 (fun w' => w'.cell? ⟨gx, 0, none⟩ = some (.int .i64 (q1 + a2)) ∧ w'.cell? ⟨gy, 0, none⟩ = some (.int .i64 q1)) (first | (with_reducible exact V.out _ (by with_reducible assumption)))
          ((first
            | (go_at_call 14; (with_reducible refine CNd.out.mono ?_); rintro e x8 ⟨⟨r8, rfl, S8⟩, b8⟩; have CS := Lib.hid (same_sv (SYd.out.keep b8) S8 (fun _ => rfl) (by decide)); have B8 := Lib.hid (show Below x7.heap.size x7 x8 from Buf.then_ BD.out b8); have B8' := B8.out; clear S8 b8)
            | (go_at_call 18; (with_reducible refine CS.out.mono ?_); rintro e x9 ⟨rfl, b9⟩; have B9 := Lib.hid (show Below x7.heap.size x7 x9 from Buf.then_ B8.out b9); have B9' := B9.out; clear b9)
            | (go_at_call 7; (with_reducible refine (Spn.sane_any _).mono ?_); rintro e x10 ⟨rfl, b10⟩; have B10 := Lib.hid (show Below x7.heap.size x7 x10 from Buf.then_ B9.out b10); have B10' := B10.out; clear b10)))
        go_wp2_with fail
        go_ret
        exact ⟨rfl, Buf.then_ HD.out (BQ.out.trans (B10.out.mono BQ.out.size))⟩
    · obtain ⟨nF, hnF⟩ : ∃ nF, nF = (u ++ [(p1, p2)]).length := ⟨_, rfl⟩
      have hlF5 : nF ≤ 5 := by rw [hnF]; exact hlF
      obtain ⟨m, hm⟩ : ∃ m, m = u.length := ⟨_, rfl⟩
      have hnm : nF = m + 1 := by rw [hnF, hm]; simp
      obtain ⟨gF, rfl, hgF, f0, f1⟩ := fF m (p1, p2) (by rw [hm]; simp)
      dsimp only at f0 f1
      have e1 : IntKind.i64.wrap ((nF : Int) - 1) = m := by rw [IntWalk.i64_in _ ⟨by omega, by omega⟩]; omega
      have b1 : (m : Int) < nF := by omega
      have b2 : (0 : Int) ≤ m := by omega
      have d3 : decide (0 < nF) = true := decide_eq_true (by omega)
      have d4 : 0 < nF := by omega
      rw [← hnF] at hcF ⊢
      replace hnF := Lib.hid hnF
      replace hnm := Lib.hid hnm
      clear hlF hm
      rcases hR0 : R with _ | ⟨⟨q1, q2⟩, tl⟩
      · clear fF fR HFR f0 f1
        have lR : ([] : LP).length = 0 := rfl
        rw [lR]
        go_wp2_with fail
        go_quiet (fail)
        have BQ := Lib.hid (Buf.below_drewN BC.out nq)
        have RQ := Lib.hid (RA.out.keep (Buf.below_drewN (Below.refl _ x4) nq))
        generalize x4.drewN nq = y4 at *
        clear BC RA
        have C5 := Lib.hid (shift_sv a2 RQ.out (by decide) d0 (by omega))
        go_wp2_with fail
        refine C5.out.mono ?_
        rintro e x5 ⟨⟨vX, N2, rfl, HN2, l2, I2, IX⟩, b5⟩
        obtain rfl := HN2.unique HN.out
        replace BQ := Lib.hid (Buf.then_ BQ.out b5)
        replace RQ := Lib.hid (RQ.out.keep b5)
        clear C5 b5 HN2 l2 I2
        have hMI : Inside (moveL N2 a2) (-1152921504606846976) 1152921504606846976 := fun p hp => by have := moveL_inside hIN.out a2 p hp; omega
        have hML : (moveL N2 a2).length ≤ 5 := by rw [moveL_length]; exact hlN.out
        have C6 := Lib.hid (shift_any (-a2) IX hMI (by omega) (by omega) (by omega))
        replace IX := Lib.hid IX
        go_wp2_with fail
        refine C6.out.mono ?_
        rintro e x6 ⟨⟨vY, N3, HN3, l3, rfl, OY⟩, b6⟩
        obtain rfl := HN3.unique (Is.self (moveL_canon HN.out.canon a2))
        rw [moveL_back] at OY
        have IY := Lib.hid (its_of_own OY)
        replace BQ := Lib.hid (Buf.then_ BQ.out b6)
        replace RQ := Lib.hid (RQ.out.keep b6)
        replace IX := Lib.hid (IX.out.keep b6)
        clear C6 b6 HN3 l3 OY
        have C7 := Lib.hid (length_any IX.out hMI (by omega))
        go_wp2_with fail
        refine C7.out.mono ?_
        rintro e x7 ⟨⟨N4, HN4, rfl⟩, b7⟩
        obtain rfl := HN4.unique (Is.self (moveL_canon HN.out.canon a2))
        rw [moveL_len, hcN.out]
        replace BQ := Lib.hid (Buf.then_ BQ.out b7)
        have RA7 := Lib.hid (RQ.out.keep b7)
        replace IX := Lib.hid (IX.out.keep b7)
        have SY7 : Hid (Sv x7 vY (hasB A) 5) := Lib.hid ⟨N2, IY.out.keep b7, HN.out, hlN.out, hIN.out⟩
        replace IY := Lib.hid (IY.out.keep b7)
        clear C7 b7 HN4 RQ hMI hML
        obtain ⟨adX, cX, rfl, hcX, fX⟩ := its_form IX.out
        obtain ⟨adY, cY, rfl, hcY, fY⟩ := its_form IY.out
        clear IX IY
        replace SP := SP
        clear SP hF HRR hcN
        rcases hNN : N2 with _ | ⟨⟨q1, q2⟩, tl⟩
        · have SY7n : Hid (Sv x7 (.slice adY 0 cY) (hasB A) 5) := by rw [hNN] at SY7; exact SY7
          replace SY7 := SY7n
          clear SY7n
          rw [hNN] at *
          clear fX fY hNN hcX hcY hIN hlN HN
          have lx0 : (moveL [] a2).length = 0 := rfl
          rw [lx0]
          clear lx0
          try clear hlF
          try clear hcF
          go_wp2_with fail
          refine wp_region_noPanic ?_
          refine wp_region_any (by kernel_rfl) ?_
          refine Inv.wpAny_inv (fun k => false) [104, 105, 106, 107, 108, 109, 110, 111, 112, 113, 114, 115, 116, 117, 118, 119, 120, 121, 122, 123, 124, 125, 126, 127, 128, 129, 130, 131, 132, 133, 134, 135, 136, 137, 138, 139, 140, 141, 142, 143, 144, 145, 6] (fun w' => Below x7.heap.size x7 w') (fun _ w1 w2 => Below w1.heap.size w1 w2) (fun k => ([fun v_ w_ => v_ = .int .i64 0, fun v_ w_ => v_ = .bool true, fun v_ w_ => v_ = .bool true, fun v_ w_ => v_ = .int .i64 0, fun v_ w_ => v_ = .bool true, fun v_ w_ => v_ = .bool true, fun v_ w_ => v_ = .bool true, fun v_ w_ => v_ = .bool true, fun v_ w_ => v_ = .bool true, fun v_ w_ => v_ = .bool true, fun v_ w_ => v_ = .int .i64 c, fun v_ w_ => v_ = .int .i64 c, fun v_ w_ => v_ = .bool true, fun v_ w_ => v_ = .bool true, fun v_ w_ => v_ = .bool true, fun v_ w_ => v_ = .slice adY 0 cY, fun v_ w_ => v_ = vA, fun v_ w_ => Sv w_ v_ (hasB A) 5, fun v_ w_ => v_ = .bool true, fun v_ w_ => v_ = .bool true, fun v_ w_ => v_ = .bool true, fun v_ w_ => v_ = .slice adX 0 cX, fun v_ w_ => v_ = .int .i64 0, fun v_ w_ => v_ = .bool true, fun v_ w_ => v_ = .bool true, fun v_ w_ => True, fun v_ w_ => True, fun v_ w_ => True, fun v_ w_ => True, fun v_ w_ => True, fun v_ w_ => True, fun v_ w_ => True, fun v_ w_ => True, fun v_ w_ => True, fun v_ w_ => True, fun v_ w_ => True, fun v_ w_ => True, fun v_ w_ => v_ = .bool true, fun v_ w_ => v_ = .bool true, fun v_ w_ => v_ = .bool true, fun v_ w_ => v_ = .bool true, fun v_ w_ => v_ = .bool true, fun v_ w_ => v_ = .bool true] : List (Value → World → Prop)).getD k (fun _ _ => True)) _ (fun σ => by simp only [Inv.putAll, List.foldl_cons, List.foldl_nil, Act.put, List.setIfInBounds_toArray, List.set_cons_zero, List.set_cons_succ]; rfl) (by kernel_rfl) (by kernel_rfl) ?_ ((Below.refl x7.heap.size x7).drew) ?_ ?_ 0 #[true, true, true, true, true, true, true, true, true, true, true, true, true, true, true, true, true, true, true, true, true, true, true, true, true, true, true, true, true, true, true, true, true, true, true, true, true, true, true, true, true, true, true] (by kernel_rfl) (by kernel_rfl) ?_
          · intro j k v w1 w2 hjk hv hr
            rcases k with _ | k
            · exact hv
            rcases k with _ | k
            · exact hv
            rcases k with _ | k
            · exact hv
            rcases k with _ | k
            · exact hv
            rcases k with _ | k
            · exact hv
            rcases k with _ | k
            · exact hv
            rcases k with _ | k
            · exact hv
            rcases k with _ | k
            · exact hv
            rcases k with _ | k
            · exact hv
            rcases k with _ | k
            · exact hv
            rcases k with _ | k
            · exact hv
            rcases k with _ | k
            · exact hv
            rcases k with _ | k
            · exact hv
            rcases k with _ | k
            · exact hv
            rcases k with _ | k
            · exact hv
            rcases k with _ | k
            · exact hv
            rcases k with _ | k
            · exact hv
            rcases k with _ | k
            · exact (hv.keep hr)
            rcases k with _ | k
            · exact hv
            rcases k with _ | k
            · exact hv
            rcases k with _ | k
            · exact hv
            rcases k with _ | k
            · exact hv
            rcases k with _ | k
            · exact hv
            rcases k with _ | k
            · exact hv
            rcases k with _ | k
            · exact hv
            rcases k with _ | k
            · exact hv
            rcases k with _ | k
            · exact hv
            rcases k with _ | k
            · exact hv
            rcases k with _ | k
            · exact hv
            rcases k with _ | k
            · exact hv
            rcases k with _ | k
            · exact hv
            rcases k with _ | k
            · exact hv
            rcases k with _ | k
            · exact hv
            rcases k with _ | k
            · exact hv
            rcases k with _ | k
            · exact hv
            rcases k with _ | k
            · exact hv
            rcases k with _ | k
            · exact hv
            rcases k with _ | k
            · exact hv
            rcases k with _ | k
            · exact hv
            rcases k with _ | k
            · exact hv
            rcases k with _ | k
            · exact hv
            rcases k with _ | k
            · exact hv
            rcases k with _ | k
            · exact hv
            · exact hv
          · intro k t hl hd
            rcases k with _ | k
            · exact absurd hl (by decide +kernel)
            rcases k with _ | k
            · exact absurd hl (by decide +kernel)
            rcases k with _ | k
            · exact absurd hl (by decide +kernel)
            rcases k with _ | k
            · exact absurd hl (by decide +kernel)
            rcases k with _ | k
            · exact absurd hl (by decide +kernel)
            rcases k with _ | k
            · exact absurd hl (by decide +kernel)
            rcases k with _ | k
            · exact absurd hl (by decide +kernel)
            rcases k with _ | k
            · exact absurd hl (by decide +kernel)
            rcases k with _ | k
            · exact absurd hl (by decide +kernel)
            rcases k with _ | k
            · exact absurd hl (by decide +kernel)
            rcases k with _ | k
            · exact absurd hl (by decide +kernel)
            rcases k with _ | k
            · exact absurd hl (by decide +kernel)
            rcases k with _ | k
            · exact absurd hl (by decide +kernel)
            rcases k with _ | k
            · exact absurd hl (by decide +kernel)
            rcases k with _ | k
            · exact absurd hl (by decide +kernel)
            rcases k with _ | k
            · exact absurd hl (by decide +kernel)
            rcases k with _ | k
            · exact absurd hl (by decide +kernel)
            rcases k with _ | k
            · exact absurd hl (by decide +kernel)
            rcases k with _ | k
            · exact absurd hl (by decide +kernel)
            rcases k with _ | k
            · exact absurd hl (by decide +kernel)
            rcases k with _ | k
            · exact absurd hl (by decide +kernel)
            rcases k with _ | k
            · exact absurd hl (by decide +kernel)
            rcases k with _ | k
            · exact absurd hl (by decide +kernel)
            rcases k with _ | k
            · exact absurd hl (by decide +kernel)
            rcases k with _ | k
            · exact absurd hl (by decide +kernel)
            rcases k with _ | k
            · exact absurd hl (by decide +kernel)
            rcases k with _ | k
            · exact absurd hl (by decide +kernel)
            rcases k with _ | k
            · exact absurd hl (by decide +kernel)
            rcases k with _ | k
            · exact absurd hl (by decide +kernel)
            rcases k with _ | k
            · exact absurd hl (by decide +kernel)
            rcases k with _ | k
            · exact absurd hl (by decide +kernel)
            rcases k with _ | k
            · exact absurd hl (by decide +kernel)
            rcases k with _ | k
            · exact absurd hl (by decide +kernel)
            rcases k with _ | k
            · exact absurd hl (by decide +kernel)
            rcases k with _ | k
            · exact absurd hl (by decide +kernel)
            rcases k with _ | k
            · exact absurd hl (by decide +kernel)
            rcases k with _ | k
            · exact absurd hl (by decide +kernel)
            rcases k with _ | k
            · exact absurd hl (by decide +kernel)
            rcases k with _ | k
            · exact absurd hl (by decide +kernel)
            rcases k with _ | k
            · exact absurd hl (by decide +kernel)
            rcases k with _ | k
            · exact absurd hl (by decide +kernel)
            rcases k with _ | k
            · exact absurd hl (by decide +kernel)
            rcases k with _ | k
            · exact absurd hl (by decide +kernel)
            · simp at hd
          · show Inv.Steps _ _ _ _ _ _ _ _ [0, 1, 2, 3, 4, 5, 6, 7, 8, 9, 10, 11, 12, 13, 14, 15, 16, 17, 18, 19, 20, 21, 22, 23, 24, 25, 26, 27, 28, 29, 30, 31, 32, 33, 34, 35, 36, 37, 38, 39, 40, 41, 42]
            refine Inv.Steps.go (by decide) (by rfl) (fun σ wx hw hd K hK => ?_) ?_
            · simp only [List.getElem_toArray, List.getElem_cons_zero, List.getElem_cons_succ, Act.put, List.setIfInBounds_toArray, List.set_cons_zero, List.set_cons_succ] at hK ⊢
              go_simp
              exact hK.out _ _ hw (Below.refl _ _) (rfl)
            refine Inv.Steps.go (by decide) (by rfl) (fun σ wx hw hd K hK => ?_) ?_
            · obtain e104 : (σ 104) = .int .i64 0 := hd 0 (some 104) (by kernel_rfl) (by rfl)
              simp only [List.getElem_toArray, List.getElem_cons_zero, List.getElem_cons_succ, Act.put, List.setIfInBounds_toArray, List.set_cons_zero, List.set_cons_succ, e104] at hK ⊢
              go_simp
              exact hK.out _ _ hw (Below.refl _ _) (rfl)
            refine Inv.Steps.go (by decide) (by rfl) (fun σ wx hw hd K hK => ?_) ?_
            · obtain e105 : (σ 105) = .bool true := hd 1 (some 105) (by kernel_rfl) (by rfl)
              simp only [List.getElem_toArray, List.getElem_cons_zero, List.getElem_cons_succ, Act.put, List.setIfInBounds_toArray, List.set_cons_zero, List.set_cons_succ, e105] at hK ⊢
              go_simp
              exact hK.out _ _ hw (Below.refl _ _) (rfl)
            refine Inv.Steps.on (by decide) 2 106 true (by rfl) (by rfl) (fun σ wx hw hd => ?_) ?_
            · obtain e106 : (σ 106) = .bool true := hd 2 (some 106) (by kernel_rfl) (by rfl)
              refine ⟨by simp [e106], fun K hK => ?_⟩
              simp only [List.getElem_toArray, List.getElem_cons_zero, List.getElem_cons_succ, Act.put, List.setIfInBounds_toArray, List.set_cons_zero, List.set_cons_succ, e106] at hK ⊢
              go_simp
              exact hK.out _ _ hw (Below.refl _ _) (rfl)
            refine Inv.Steps.on (by decide) 2 106 true (by rfl) (by rfl) (fun σ wx hw hd => ?_) ?_
            · obtain e107 : (σ 107) = .int .i64 0 := hd 3 (some 107) (by kernel_rfl) (by rfl)
              obtain e106 : (σ 106) = .bool true := hd 2 (some 106) (by kernel_rfl) (by rfl)
              refine ⟨by simp [e106], fun K hK => ?_⟩
              simp only [List.getElem_toArray, List.getElem_cons_zero, List.getElem_cons_succ, Act.put, List.setIfInBounds_toArray, List.set_cons_zero, List.set_cons_succ, e107, e106] at hK ⊢
              go_simp
              exact hK.out _ _ hw (Below.refl _ _) (rfl)
            refine Inv.Steps.go (by decide) (by rfl) (fun σ wx hw hd K hK => ?_) ?_
            · obtain e106 : (σ 106) = .bool true := hd 2 (some 106) (by kernel_rfl) (by rfl)
              obtain e108 : (σ 108) = .bool true := hd 4 (some 108) (by kernel_rfl) (by rfl)
              simp only [List.getElem_toArray, List.getElem_cons_zero, List.getElem_cons_succ, Act.put, List.setIfInBounds_toArray, List.set_cons_zero, List.set_cons_succ, e106, e108] at hK ⊢
              go_simp
              exact hK.out _ _ hw (Below.refl _ _) (rfl)
            refine Inv.Steps.go (by decide) (by rfl) (fun σ wx hw hd K hK => ?_) ?_
            · obtain e109 : (σ 109) = .bool true := hd 5 (some 109) (by kernel_rfl) (by rfl)
              simp only [List.getElem_toArray, List.getElem_cons_zero, List.getElem_cons_succ, Act.put, List.setIfInBounds_toArray, List.set_cons_zero, List.set_cons_succ, e109] at hK ⊢
              go_simp
              exact hK.out _ _ hw (Below.refl _ _) (rfl)
            refine Inv.Steps.on (by decide) 6 110 true (by rfl) (by rfl) (fun σ wx hw hd => ?_) ?_
            · obtain e110 : (σ 110) = .bool true := hd 6 (some 110) (by kernel_rfl) (by rfl)
              refine ⟨by simp [e110], fun K hK => ?_⟩
              simp only [List.getElem_toArray, List.getElem_cons_zero, List.getElem_cons_succ, Act.put, List.setIfInBounds_toArray, List.set_cons_zero, List.set_cons_succ, e110] at hK ⊢
              go_simp
              exact hK.out _ _ hw (Below.refl _ _) (rfl)
            refine Inv.Steps.go (by decide) (by rfl) (fun σ wx hw hd K hK => ?_) ?_
            · obtain e110 : (σ 110) = .bool true := hd 6 (some 110) (by kernel_rfl) (by rfl)
              obtain e111 : (σ 111) = .bool true := hd 7 (some 111) (by kernel_rfl) (by rfl)
              simp only [List.getElem_toArray, List.getElem_cons_zero, List.getElem_cons_succ, Act.put, List.setIfInBounds_toArray, List.set_cons_zero, List.set_cons_succ, e110, e111] at hK ⊢
              go_simp
              exact hK.out _ _ hw (Below.refl _ _) (rfl)
            refine Inv.Steps.go (by decide) (by rfl) (fun σ wx hw hd K hK => ?_) ?_
            · obtain e112 : (σ 112) = .bool true := hd 8 (some 112) (by kernel_rfl) (by rfl)
              simp only [List.getElem_toArray, List.getElem_cons_zero, List.getElem_cons_succ, Act.put, List.setIfInBounds_toArray, List.set_cons_zero, List.set_cons_succ, e112] at hK ⊢
              go_simp
              exact hK.out _ _ hw (Below.refl _ _) (rfl)
            refine Inv.Steps.on (by decide) 9 113 true (by rfl) (by rfl) (fun σ wx hw hd => ?_) ?_
            · obtain e113 : (σ 113) = .bool true := hd 9 (some 113) (by kernel_rfl) (by rfl)
              refine ⟨by simp [e113], fun K hK => ?_⟩
              simp only [List.getElem_toArray, List.getElem_cons_zero, List.getElem_cons_succ, Act.put, List.setIfInBounds_toArray, List.set_cons_zero, List.set_cons_succ, e113] at hK ⊢
              go_simp
              exact hK.out _ _ hw (Below.refl _ _) (rfl)
            refine Inv.Steps.on (by decide) 9 113 true (by rfl) (by rfl) (fun σ wx hw hd => ?_) ?_
            · obtain e113 : (σ 113) = .bool true := hd 9 (some 113) (by kernel_rfl) (by rfl)
              refine ⟨by simp [e113], fun K hK => ?_⟩
              simp only [List.getElem_toArray, List.getElem_cons_zero, List.getElem_cons_succ, Act.put, List.setIfInBounds_toArray, List.set_cons_zero, List.set_cons_succ, e113] at hK ⊢
              go_simp
              exact hK.out _ _ hw (Below.refl _ _) (rfl)
            refine Inv.Steps.on (by decide) 9 113 true (by rfl) (by rfl) (fun σ wx hw hd => ?_) ?_
            · obtain e114 : (σ 114) = .int .i64 c := hd 10 (some 114) (by kernel_rfl) (by rfl)
              obtain e115 : (σ 115) = .int .i64 c := hd 11 (some 115) (by kernel_rfl) (by rfl)
              obtain e113 : (σ 113) = .bool true := hd 9 (some 113) (by kernel_rfl) (by rfl)
              refine ⟨by simp [e113], fun K hK => ?_⟩
              simp only [List.getElem_toArray, List.getElem_cons_zero, List.getElem_cons_succ, Act.put, List.setIfInBounds_toArray, List.set_cons_zero, List.set_cons_succ, e114, e115, e113] at hK ⊢
              go_simp
              exact hK.out _ _ hw (Below.refl _ _) (rfl)
            refine Inv.Steps.go (by decide) (by rfl) (fun σ wx hw hd K hK => ?_) ?_
            · obtain e113 : (σ 113) = .bool true := hd 9 (some 113) (by kernel_rfl) (by rfl)
              obtain e116 : (σ 116) = .bool true := hd 12 (some 116) (by kernel_rfl) (by rfl)
              simp only [List.getElem_toArray, List.getElem_cons_zero, List.getElem_cons_succ, Act.put, List.setIfInBounds_toArray, List.set_cons_zero, List.set_cons_succ, e113, e116] at hK ⊢
              go_simp
              exact hK.out _ _ hw (Below.refl _ _) (rfl)
            refine Inv.Steps.go (by decide) (by rfl) (fun σ wx hw hd K hK => ?_) ?_
            · obtain e117 : (σ 117) = .bool true := hd 13 (some 117) (by kernel_rfl) (by rfl)
              simp only [List.getElem_toArray, List.getElem_cons_zero, List.getElem_cons_succ, Act.put, List.setIfInBounds_toArray, List.set_cons_zero, List.set_cons_succ, e117] at hK ⊢
              go_simp
              exact hK.out _ _ hw (Below.refl _ _) (rfl)
            refine Inv.Steps.on (by decide) 14 118 true (by rfl) (by rfl) (fun σ wx hw hd => ?_) ?_
            · obtain e118 : (σ 118) = .bool true := hd 14 (some 118) (by kernel_rfl) (by rfl)
              refine ⟨by simp [e118], fun K hK => ?_⟩
              simp only [List.getElem_toArray, List.getElem_cons_zero, List.getElem_cons_succ, Act.put, List.setIfInBounds_toArray, List.set_cons_zero, List.set_cons_succ, e118] at hK ⊢
              go_simp
              exact hK.out _ _ hw (Below.refl _ _) (rfl)
            refine Inv.Steps.on (by decide) 14 118 true (by rfl) (by rfl) (fun σ wx hw hd => ?_) ?_
            · obtain e118 : (σ 118) = .bool true := hd 14 (some 118) (by kernel_rfl) (by rfl)
              refine ⟨by simp [e118], fun K hK => ?_⟩
              simp only [List.getElem_toArray, List.getElem_cons_zero, List.getElem_cons_succ, Act.put, List.setIfInBounds_toArray, List.set_cons_zero, List.set_cons_succ, e118] at hK ⊢
              go_simp
              exact hK.out _ _ hw (Below.refl _ _) (rfl)
            refine Inv.Steps.on (by decide) 14 118 true (by rfl) (by rfl) (fun σ wx hw hd => ?_) ?_
            · obtain e120 : (σ 120) = vA := hd 16 (some 120) (by kernel_rfl) (by rfl)
              obtain e118 : (σ 118) = .bool true := hd 14 (some 118) (by kernel_rfl) (by rfl)
              refine ⟨by simp [e118], fun K hK => ?_⟩
              simp only [List.getElem_toArray, List.getElem_cons_zero, List.getElem_cons_succ, Act.put, List.setIfInBounds_toArray, List.set_cons_zero, List.set_cons_succ, e120, e118] at hK ⊢
              go_simp
              go_at_call 14
              refine (normal_sv (RA7.out.keep hw) (by decide)).mono ?_
              rintro e wy ⟨⟨r8, rfl, S8⟩, hb⟩
              dsimp only
              exact hK.out _ _ (Buf.then_ hw hb) hb (S8)
            refine Inv.Steps.on (by decide) 14 118 true (by rfl) (by rfl) (fun σ wx hw hd => ?_) ?_
            · obtain e119 : (σ 119) = .slice adY 0 cY := hd 15 (some 119) (by kernel_rfl) (by rfl)
              obtain e121 : Sv wx (σ 121) (hasB A) 5 := hd 17 (some 121) (by kernel_rfl) (by rfl)
              obtain e118 : (σ 118) = .bool true := hd 14 (some 118) (by kernel_rfl) (by rfl)
              refine ⟨by simp [e118], fun K hK => ?_⟩
              simp only [List.getElem_toArray, List.getElem_cons_zero, List.getElem_cons_succ, Act.put, List.setIfInBounds_toArray, List.set_cons_zero, List.set_cons_succ, e119, e118] at hK ⊢
              go_simp
              go_at_call 18
              refine (same_sv (SY7.out.keep hw) e121 (fun _ => rfl) (by decide)).mono ?_
              rintro e wy ⟨rfl, hb⟩
              dsimp only
              exact hK.out _ _ (Buf.then_ hw hb) hb (rfl)
            refine Inv.Steps.go (by decide) (by rfl) (fun σ wx hw hd K hK => ?_) ?_
            · obtain e118 : (σ 118) = .bool true := hd 14 (some 118) (by kernel_rfl) (by rfl)
              obtain e122 : (σ 122) = .bool true := hd 18 (some 122) (by kernel_rfl) (by rfl)
              simp only [List.getElem_toArray, List.getElem_cons_zero, List.getElem_cons_succ, Act.put, List.setIfInBounds_toArray, List.set_cons_zero, List.set_cons_succ, e118, e122] at hK ⊢
              go_simp
              exact hK.out _ _ hw (Below.refl _ _) (rfl)
            refine Inv.Steps.go (by decide) (by rfl) (fun σ wx hw hd K hK => ?_) ?_
            · obtain e123 : (σ 123) = .bool true := hd 19 (some 123) (by kernel_rfl) (by rfl)
              simp only [List.getElem_toArray, List.getElem_cons_zero, List.getElem_cons_succ, Act.put, List.setIfInBounds_toArray, List.set_cons_zero, List.set_cons_succ, e123] at hK ⊢
              go_simp
              exact hK.out _ _ hw (Below.refl _ _) (rfl)
            refine Inv.Steps.on (by decide) 20 124 true (by rfl) (by rfl) (fun σ wx hw hd => ?_) ?_
            · obtain e124 : (σ 124) = .bool true := hd 20 (some 124) (by kernel_rfl) (by rfl)
              refine ⟨by simp [e124], fun K hK => ?_⟩
              simp only [List.getElem_toArray, List.getElem_cons_zero, List.getElem_cons_succ, Act.put, List.setIfInBounds_toArray, List.set_cons_zero, List.set_cons_succ, e124] at hK ⊢
              go_simp
              exact hK.out _ _ hw (Below.refl _ _) (rfl)
            refine Inv.Steps.on (by decide) 20 124 true (by rfl) (by rfl) (fun σ wx hw hd => ?_) ?_
            · obtain e125 : (σ 125) = .slice adX 0 cX := hd 21 (some 125) (by kernel_rfl) (by rfl)
              obtain e124 : (σ 124) = .bool true := hd 20 (some 124) (by kernel_rfl) (by rfl)
              refine ⟨by simp [e124], fun K hK => ?_⟩
              simp only [List.getElem_toArray, List.getElem_cons_zero, List.getElem_cons_succ, Act.put, List.setIfInBounds_toArray, List.set_cons_zero, List.set_cons_succ, e125, e124] at hK ⊢
              go_simp
              exact hK.out _ _ hw (Below.refl _ _) (rfl)
            refine Inv.Steps.on (by decide) 20 124 true (by rfl) (by rfl) (fun σ wx hw hd => ?_) ?_
            · obtain e126 : (σ 126) = .int .i64 0 := hd 22 (some 126) (by kernel_rfl) (by rfl)
              obtain e124 : (σ 124) = .bool true := hd 20 (some 124) (by kernel_rfl) (by rfl)
              refine ⟨by simp [e124], fun K hK => ?_⟩
              simp only [List.getElem_toArray, List.getElem_cons_zero, List.getElem_cons_succ, Act.put, List.setIfInBounds_toArray, List.set_cons_zero, List.set_cons_succ, e126, e124] at hK ⊢
              go_simp
              exact hK.out _ _ hw (Below.refl _ _) (rfl)
            refine Inv.Steps.on (by decide) 20 124 true (by rfl) (by rfl) (fun σ wx hw hd => ?_) ?_
            · obtain e127 : (σ 127) = .bool true := hd 23 (some 127) (by kernel_rfl) (by rfl)
              obtain e124 : (σ 124) = .bool true := hd 20 (some 124) (by kernel_rfl) (by rfl)
              refine ⟨by simp [e124], fun K hK => ?_⟩
              simp only [List.getElem_toArray, List.getElem_cons_zero, List.getElem_cons_succ, Act.put, List.setIfInBounds_toArray, List.set_cons_zero, List.set_cons_succ, e127, e124] at hK ⊢
              go_simp
              exact hK.out _ _ hw (Below.refl _ _) (rfl)
            refine Inv.Steps.off (by decide) 24 128 false (.bool true) (by rfl) (by rfl) (by first | exact .inl rfl | exact .inr rfl) (fun σ wx hw hd => ?_) ?_
            · obtain e128 : (σ 128) = .bool true := hd 24 (some 128) (by kernel_rfl) (by rfl)
              exact ⟨by simp [e128], (Below.refl _ _), trivial⟩
            refine Inv.Steps.off (by decide) 24 128 false (.bool true) (by rfl) (by rfl) (by first | exact .inl rfl | exact .inr rfl) (fun σ wx hw hd => ?_) ?_
            · obtain e128 : (σ 128) = .bool true := hd 24 (some 128) (by kernel_rfl) (by rfl)
              exact ⟨by simp [e128], (Below.refl _ _), trivial⟩
            refine Inv.Steps.off (by decide) 24 128 false (.bool true) (by rfl) (by rfl) (by first | exact .inl rfl | exact .inr rfl) (fun σ wx hw hd => ?_) ?_
            · obtain e128 : (σ 128) = .bool true := hd 24 (some 128) (by kernel_rfl) (by rfl)
              exact ⟨by simp [e128], (Below.refl _ _), trivial⟩
            refine Inv.Steps.off (by decide) 24 128 false (.bool true) (by rfl) (by rfl) (by first | exact .inl rfl | exact .inr rfl) (fun σ wx hw hd => ?_) ?_
            · obtain e128 : (σ 128) = .bool true := hd 24 (some 128) (by kernel_rfl) (by rfl)
              exact ⟨by simp [e128], (Below.refl _ _), trivial⟩
            refine Inv.Steps.off (by decide) 24 128 false (.bool true) (by rfl) (by rfl) (by first | exact .inl rfl | exact .inr rfl) (fun σ wx hw hd => ?_) ?_
            · obtain e128 : (σ 128) = .bool true := hd 24 (some 128) (by kernel_rfl) (by rfl)
              exact ⟨by simp [e128], (Below.refl _ _), trivial⟩
            refine Inv.Steps.off (by decide) 24 128 false (.bool true) (by rfl) (by rfl) (by first | exact .inl rfl | exact .inr rfl) (fun σ wx hw hd => ?_) ?_
            · obtain e128 : (σ 128) = .bool true := hd 24 (some 128) (by kernel_rfl) (by rfl)
              exact ⟨by simp [e128], (Below.refl _ _), trivial⟩
            refine Inv.Steps.off (by decide) 24 128 false (.bool true) (by rfl) (by rfl) (by first | exact .inl rfl | exact .inr rfl) (fun σ wx hw hd => ?_) ?_
            · obtain e128 : (σ 128) = .bool true := hd 24 (some 128) (by kernel_rfl) (by rfl)
              exact ⟨by simp [e128], (Below.refl _ _), trivial⟩
            refine Inv.Steps.off (by decide) 24 128 false (.bool true) (by rfl) (by rfl) (by first | exact .inl rfl | exact .inr rfl) (fun σ wx hw hd => ?_) ?_
            · obtain e128 : (σ 128) = .bool true := hd 24 (some 128) (by kernel_rfl) (by rfl)
              exact ⟨by simp [e128], (Below.refl _ _), trivial⟩
            refine Inv.Steps.off (by decide) 24 128 false (.bool true) (by rfl) (by rfl) (by first | exact .inl rfl | exact .inr rfl) (fun σ wx hw hd => ?_) ?_
            · obtain e128 : (σ 128) = .bool true := hd 24 (some 128) (by kernel_rfl) (by rfl)
              exact ⟨by simp [e128], (Below.refl _ _), trivial⟩
            refine Inv.Steps.off (by decide) 24 128 false (.bool true) (by rfl) (by rfl) (by first | exact .inl rfl | exact .inr rfl) (fun σ wx hw hd => ?_) ?_
            · obtain e128 : (σ 128) = .bool true := hd 24 (some 128) (by kernel_rfl) (by rfl)
              exact ⟨by simp [e128], (Below.refl _ _), trivial⟩
            refine Inv.Steps.off (by decide) 24 128 false (.bool true) (by rfl) (by rfl) (by first | exact .inl rfl | exact .inr rfl) (fun σ wx hw hd => ?_) ?_
            · obtain e128 : (σ 128) = .bool true := hd 24 (some 128) (by kernel_rfl) (by rfl)
              exact ⟨by simp [e128], (Below.refl _ _), trivial⟩
            refine Inv.Steps.off (by decide) 24 128 false (.bool true) (by rfl) (by rfl) (by first | exact .inl rfl | exact .inr rfl) (fun σ wx hw hd => ?_) ?_
            · obtain e128 : (σ 128) = .bool true := hd 24 (some 128) (by kernel_rfl) (by rfl)
              exact ⟨by simp [e128], (Below.refl _ _), trivial⟩
            refine Inv.Steps.on (by decide) 20 124 true (by rfl) (by rfl) (fun σ wx hw hd => ?_) ?_
            · obtain e128 : (σ 128) = .bool true := hd 24 (some 128) (by kernel_rfl) (by rfl)
              obtain e124 : (σ 124) = .bool true := hd 20 (some 124) (by kernel_rfl) (by rfl)
              refine ⟨by simp [e124], fun K hK => ?_⟩
              simp only [List.getElem_toArray, List.getElem_cons_zero, List.getElem_cons_succ, Act.put, List.setIfInBounds_toArray, List.set_cons_zero, List.set_cons_succ, e128, e124] at hK ⊢
              go_simp
              exact hK.out _ _ hw (Below.refl _ _) (rfl)
            refine Inv.Steps.go (by decide) (by rfl) (fun σ wx hw hd K hK => ?_) ?_
            · obtain e124 : (σ 124) = .bool true := hd 20 (some 124) (by kernel_rfl) (by rfl)
              obtain e141 : (σ 141) = .bool true := hd 37 (some 141) (by kernel_rfl) (by rfl)
              simp only [List.getElem_toArray, List.getElem_cons_zero, List.getElem_cons_succ, Act.put, List.setIfInBounds_toArray, List.set_cons_zero, List.set_cons_succ, e124, e141] at hK ⊢
              go_simp
              exact hK.out _ _ hw (Below.refl _ _) (rfl)
            refine Inv.Steps.go (by decide) (by rfl) (fun σ wx hw hd K hK => ?_) ?_
            · obtain e142 : (σ 142) = .bool true := hd 38 (some 142) (by kernel_rfl) (by rfl)
              simp only [List.getElem_toArray, List.getElem_cons_zero, List.getElem_cons_succ, Act.put, List.setIfInBounds_toArray, List.set_cons_zero, List.set_cons_succ, e142] at hK ⊢
              go_simp
              exact hK.out _ _ hw (Below.refl _ _) (rfl)
            refine Inv.Steps.on (by decide) 39 143 true (by rfl) (by rfl) (fun σ wx hw hd => ?_) ?_
            · obtain e143 : (σ 143) = .bool true := hd 39 (some 143) (by kernel_rfl) (by rfl)
              refine ⟨by simp [e143], fun K hK => ?_⟩
              simp only [List.getElem_toArray, List.getElem_cons_zero, List.getElem_cons_succ, Act.put, List.setIfInBounds_toArray, List.set_cons_zero, List.set_cons_succ, e143] at hK ⊢
              go_simp
              go_at_call 7
              refine (Spn.sane_any _).mono ?_
              rintro e wy ⟨rfl, hb⟩
              dsimp only
              exact hK.out _ _ (Buf.then_ hw hb) hb (rfl)
            refine Inv.Steps.go (by decide) (by rfl) (fun σ wx hw hd K hK => ?_) ?_
            · obtain e143 : (σ 143) = .bool true := hd 39 (some 143) (by kernel_rfl) (by rfl)
              obtain e144 : (σ 144) = .bool true := hd 40 (some 144) (by kernel_rfl) (by rfl)
              simp only [List.getElem_toArray, List.getElem_cons_zero, List.getElem_cons_succ, Act.put, List.setIfInBounds_toArray, List.set_cons_zero, List.set_cons_succ, e143, e144] at hK ⊢
              go_simp
              exact hK.out _ _ hw (Below.refl _ _) (rfl)
            refine Inv.Steps.go (by decide) (by rfl) (fun σ wx hw hd K hK => ?_) ?_
            · obtain e145 : (σ 145) = .bool true := hd 41 (some 145) (by kernel_rfl) (by rfl)
              simp only [List.getElem_toArray, List.getElem_cons_zero, List.getElem_cons_succ, Act.put, List.setIfInBounds_toArray, List.set_cons_zero, List.set_cons_succ, e145] at hK ⊢
              go_simp
              exact hK.out _ _ hw (Below.refl _ _) (rfl)
            exact Inv.Steps.nil
          · intro σ wx hw hd
            obtain e6 : (σ 6) = .bool true := hd 42 (some 6) (by rfl) (by rfl)
            refine Inv.done (by kernel_rfl) (NoPanic.normal ?_)
            rw [e6]
            clear e6 hd
            replace hw := Lib.hid hw
            go_wp2_with fail
            go_ret
            exact ⟨rfl, Buf.then_ HD.out (BQ.out.trans (hw.out.mono BQ.out.size))⟩
        · obtain ⟨gx, rfl, hgx, u0, u1⟩ := fX 0 (q1 + a2, q2 + a2) (by rw [hNN]; rfl)
          obtain ⟨gy, rfl, hgy, v0, v1⟩ := fY 0 (q1, q2) (by rw [hNN]; rfl)
          have V : Hid (∀ w', Below x7.heap.size x7 w' → w'.cell? ⟨gx, 0, none⟩ = some (.int .i64 (q1 + a2)) ∧ w'.cell? ⟨gy, 0, none⟩ = some (.int .i64 q1)) := Lib.hid fun w' h => ⟨(h.cell (p := ⟨gx, _, none⟩) hgx).trans u0, (h.cell (p := ⟨gy, _, none⟩) hgy).trans v0⟩
          have i1 := hIN.out (q1, q2) (by rw [hNN]; simp)
          have i2 := HN.out.canon.one (q1, q2) (by rw [hNN]; simp)
          dsimp only at i1 i2
          obtain ⟨nX, hnX⟩ : ∃ nX, nX = (moveL N2 a2).length := ⟨_, rfl⟩
          obtain ⟨nY, hnY⟩ : ∃ nY, nY = N2.length := ⟨_, rfl⟩
          have x0' : 0 < nX := by rw [hnX, moveL_length, hNN]; simp
          have y0' : 0 < nY := by rw [hnY, hNN]; simp
          have dX : ((nX : Int) == 0) = false := by simp; omega
          have dX' : decide ((nX : Int) = 0) = false := by simp; omega
          have dX'' : decide (nX = 0) = false := by simp; omega
          have bX : (0 : Int) < nX := by omega
          have bY : (0 : Int) < nY := by omega
          have ws2 : IntKind.i64.wrap a2 = a2 := IntWalk.i64_in _ (by omega)
          have ws : IntKind.i64.wrap (q1 + a2) = q1 + a2 := IntWalk.i64_in _ (by omega)
          rw [← hNN, ← hnX, ← hnY]
          rw [← hnX] at hcX
          rw [← hnY] at hcY SY7
          replace hnX := Lib.hid hnX
          replace hnY := Lib.hid hnY
          replace hNN := Lib.hid hNN
          clear fX fY u0 u1 v0 v1
          have CNd := Lib.hid (normal_sv (RA7.out.keep (Below.refl _ x7).drew) (by decide))
          have SYd := Lib.hid (SY7.out.keep (Below.refl _ x7).drew)
          have BD := Lib.hid (show Below x7.heap.size x7 x7.drew from (Below.refl _ x7).drew)
          have BD' := BD.out
          go_wp2_with fail
          go_region_held3 (fun w' => w'.cell? ⟨gx, 0, none⟩ = some (.int .i64 (q1 + a2)) ∧ w'.cell? ⟨gy, 0, none⟩ = some (.int .i64 q1)) (first | (with_reducible exact V.out _ (by with_reducible assumption)))
            ((first
              | (go_at_call 14; (with_reducible refine CNd.out.mono ?_); rintro e x8 ⟨⟨r8, rfl, S8⟩, b8⟩; have CS := Lib.hid (same_sv (SYd.out.keep b8) S8 (fun _ => rfl) (by decide)); have B8 := Lib.hid (show Below x7.heap.size x7 x8 from Buf.then_ BD.out b8); have B8' := B8.out; clear S8 b8)
              | (go_at_call 18; (with_reducible refine CS.out.mono ?_); rintro e x9 ⟨rfl, b9⟩; have B9 := Lib.hid (show Below x7.heap.size x7 x9 from Buf.then_ B8.out b9); have B9' := B9.out; clear b9)
              | (go_at_call 7; (with_reducible refine (Spn.sane_any _).mono ?_); rintro e x10 ⟨rfl, b10⟩; have B10 := Lib.hid (show Below x7.heap.size x7 x10 from Buf.then_ B9.out b10); have B10' := B10.out; clear b10)))
          go_wp2_with fail
          go_ret
          exact ⟨rfl, Buf.then_ HD.out (BQ.out.trans (B10.out.mono BQ.out.size))⟩
      · obtain ⟨gR, rfl, hgR, r0, r1⟩ := fR 0 (q1, q2) (by rw [hR0]; rfl)
        dsimp only at r0 r1
        obtain ⟨nR, hnR⟩ : ∃ nR, nR = R.length := ⟨_, rfl⟩
        have bR : (0 : Int) < nR := by rw [hnR, hR0]; simp
        have d5 : 0 < nR := by omega
        have d6 : decide (0 < nR) = true := decide_eq_true d5
        have hle := HFR.out u tl (p1, p2) (q1, q2) rfl hR0
        dsimp only at hle
        have d7 : decide (q1 < p2) = false := decide_eq_false (by omega)
        rw [← hR0, ← hnR]
        rw [← hnR] at hcR
        replace hnR := Lib.hid hnR
        replace hR0 := Lib.hid hR0
        clear fF fR HFR f0 r1
        go_wp2_with fail
        go_quiet (fail)
        have BQ := Lib.hid (Buf.below_drewN BC.out nq)
        have RQ := Lib.hid (RA.out.keep (Buf.below_drewN (Below.refl _ x4) nq))
        generalize x4.drewN nq = y4 at *
        clear BC RA
        have C5 := Lib.hid (shift_sv a2 RQ.out (by decide) d0 (by omega))
        go_wp2_with fail
        refine C5.out.mono ?_
        rintro e x5 ⟨⟨vX, N2, rfl, HN2, l2, I2, IX⟩, b5⟩
        obtain rfl := HN2.unique HN.out
        replace BQ := Lib.hid (Buf.then_ BQ.out b5)
        replace RQ := Lib.hid (RQ.out.keep b5)
        clear C5 b5 HN2 l2 I2
        have hMI : Inside (moveL N2 a2) (-1152921504606846976) 1152921504606846976 := fun p hp => by have := moveL_inside hIN.out a2 p hp; omega
        have hML : (moveL N2 a2).length ≤ 5 := by rw [moveL_length]; exact hlN.out
        have C6 := Lib.hid (shift_any (-a2) IX hMI (by omega) (by omega) (by omega))
        replace IX := Lib.hid IX
        go_wp2_with fail
        refine C6.out.mono ?_
        rintro e x6 ⟨⟨vY, N3, HN3, l3, rfl, OY⟩, b6⟩
        obtain rfl := HN3.unique (Is.self (moveL_canon HN.out.canon a2))
        rw [moveL_back] at OY
        have IY := Lib.hid (its_of_own OY)
        replace BQ := Lib.hid (Buf.then_ BQ.out b6)
        replace RQ := Lib.hid (RQ.out.keep b6)
        replace IX := Lib.hid (IX.out.keep b6)
        clear C6 b6 HN3 l3 OY
        have C7 := Lib.hid (length_any IX.out hMI (by omega))
        go_wp2_with fail
        refine C7.out.mono ?_
        rintro e x7 ⟨⟨N4, HN4, rfl⟩, b7⟩
        obtain rfl := HN4.unique (Is.self (moveL_canon HN.out.canon a2))
        rw [moveL_len, hcN.out]
        replace BQ := Lib.hid (Buf.then_ BQ.out b7)
        have RA7 := Lib.hid (RQ.out.keep b7)
        replace IX := Lib.hid (IX.out.keep b7)
        have SY7 : Hid (Sv x7 vY (hasB A) 5) := Lib.hid ⟨N2, IY.out.keep b7, HN.out, hlN.out, hIN.out⟩
        replace IY := Lib.hid (IY.out.keep b7)
        clear C7 b7 HN4 RQ hMI hML
        obtain ⟨adX, cX, rfl, hcX, fX⟩ := its_form IX.out
        obtain ⟨adY, cY, rfl, hcY, fY⟩ := its_form IY.out
        clear IX IY
        replace SP := SP
        clear SP hF HRR hcN
        rcases hNN : N2 with _ | ⟨⟨q1, q2⟩, tl⟩
        · have SY7n : Hid (Sv x7 (.slice adY 0 cY) (hasB A) 5) := by rw [hNN] at SY7; exact SY7
          replace SY7 := SY7n
          clear SY7n
          rw [hNN] at *
          clear fX fY hNN hcX hcY hIN hlN HN
          have lx0 : (moveL [] a2).length = 0 := rfl
          rw [lx0]
          clear lx0
          try clear hlF
          try clear hcF
          go_wp2_with fail
          refine wp_region_noPanic ?_
          refine wp_region_any (by kernel_rfl) ?_
          refine Inv.wpAny_inv (fun k => false) [104, 105, 106, 107, 108, 109, 110, 111, 112, 113, 114, 115, 116, 117, 118, 119, 120, 121, 122, 123, 124, 125, 126, 127, 128, 129, 130, 131, 132, 133, 134, 135, 136, 137, 138, 139, 140, 141, 142, 143, 144, 145, 6] (fun w' => Below x7.heap.size x7 w') (fun _ w1 w2 => Below w1.heap.size w1 w2) (fun k => ([fun v_ w_ => v_ = .int .i64 0, fun v_ w_ => v_ = .bool true, fun v_ w_ => v_ = .bool true, fun v_ w_ => v_ = .int .i64 0, fun v_ w_ => v_ = .bool true, fun v_ w_ => v_ = .bool true, fun v_ w_ => v_ = .bool true, fun v_ w_ => v_ = .bool true, fun v_ w_ => v_ = .bool true, fun v_ w_ => v_ = .bool true, fun v_ w_ => v_ = .int .i64 c, fun v_ w_ => v_ = .int .i64 c, fun v_ w_ => v_ = .bool true, fun v_ w_ => v_ = .bool true, fun v_ w_ => v_ = .bool true, fun v_ w_ => v_ = .slice adY 0 cY, fun v_ w_ => v_ = vA, fun v_ w_ => Sv w_ v_ (hasB A) 5, fun v_ w_ => v_ = .bool true, fun v_ w_ => v_ = .bool true, fun v_ w_ => v_ = .bool true, fun v_ w_ => v_ = .slice adX 0 cX, fun v_ w_ => v_ = .int .i64 0, fun v_ w_ => v_ = .bool true, fun v_ w_ => v_ = .bool true, fun v_ w_ => True, fun v_ w_ => True, fun v_ w_ => True, fun v_ w_ => True, fun v_ w_ => True, fun v_ w_ => True, fun v_ w_ => True, fun v_ w_ => True, fun v_ w_ => True, fun v_ w_ => True, fun v_ w_ => True, fun v_ w_ => True, fun v_ w_ => v_ = .bool true, fun v_ w_ => v_ = .bool true, fun v_ w_ => v_ = .bool true, fun v_ w_ => v_ = .bool true, fun v_ w_ => v_ = .bool true, fun v_ w_ => v_ = .bool true] : List (Value → World → Prop)).getD k (fun _ _ => True)) _ (fun σ => by simp only [Inv.putAll, List.foldl_cons, List.foldl_nil, Act.put, List.setIfInBounds_toArray, List.set_cons_zero, List.set_cons_succ]; rfl) (by kernel_rfl) (by kernel_rfl) ?_ ((Below.refl x7.heap.size x7).drew) ?_ ?_ 0 #[true, true, true, true, true, true, true, true, true, true, true, true, true, true, true, true, true, true, true, true, true, true, true, true, true, true, true, true, true, true, true, true, true, true, true, true, true, true, true, true, true, true, true] (by kernel_rfl) (by kernel_rfl) ?_
          · intro j k v w1 w2 hjk hv hr
            rcases k with _ | k
            · exact hv
            rcases k with _ | k
            · exact hv
            rcases k with _ | k
            · exact hv
            rcases k with _ | k
            · exact hv
            rcases k with _ | k
            · exact hv
            rcases k with _ | k
            · exact hv
            rcases k with _ | k
            · exact hv
            rcases k with _ | k
            · exact hv
            rcases k with _ | k
            · exact hv
            rcases k with _ | k
            · exact hv
            rcases k with _ | k
            · exact hv
            rcases k with _ | k
            · exact hv
            rcases k with _ | k
            · exact hv
            rcases k with _ | k
            · exact hv
            rcases k with _ | k
            · exact hv
            rcases k with _ | k
            · exact hv
            rcases k with _ | k
            · exact hv
            rcases k with _ | k
            · exact (hv.keep hr)
            rcases k with _ | k
            · exact hv
            rcases k with _ | k
            · exact hv
            rcases k with _ | k
            · exact hv
            rcases k with _ | k
            · exact hv
            rcases k with _ | k
            · exact hv
            rcases k with _ | k
            · exact hv
            rcases k with _ | k
            · exact hv
            rcases k with _ | k
            · exact hv
            rcases k with _ | k
            · exact hv
            rcases k with _ | k
            · exact hv
            rcases k with _ | k
            · exact hv
            rcases k with _ | k
            · exact hv
            rcases k with _ | k
            · exact hv
            rcases k with _ | k
            · exact hv
            rcases k with _ | k
            · exact hv
            rcases k with _ | k
            · exact hv
            rcases k with _ | k
            · exact hv
            rcases k with _ | k
            · exact hv
            rcases k with _ | k
            · exact hv
            rcases k with _ | k
            · exact hv
            rcases k with _ | k
            · exact hv
            rcases k with _ | k
            · exact hv
            rcases k with _ | k
            · exact hv
            rcases k with _ | k
            · exact hv
            rcases k with _ | k
            · exact hv
            · exact hv
          · intro k t hl hd
            rcases k with _ | k
            · exact absurd hl (by decide +kernel)
            rcases k with _ | k
            · exact absurd hl (by decide +kernel)
            rcases k with _ | k
            · exact absurd hl (by decide +kernel)
            rcases k with _ | k
            · exact absurd hl (by decide +kernel)
            rcases k with _ | k
            · exact absurd hl (by decide +kernel)
            rcases k with _ | k
            · exact absurd hl (by decide +kernel)
            rcases k with _ | k
            · exact absurd hl (by decide +kernel)
            rcases k with _ | k
            · exact absurd hl (by decide +kernel)
            rcases k with _ | k
            · exact absurd hl (by decide +kernel)
            rcases k with _ | k
            · exact absurd hl (by decide +kernel)
            rcases k with _ | k
            · exact absurd hl (by decide +kernel)
            rcases k with _ | k
            · exact absurd hl (by decide +kernel)
            rcases k with _ | k
            · exact absurd hl (by decide +kernel)
            rcases k with _ | k
            · exact absurd hl (by decide +kernel)
            rcases k with _ | k
            · exact absurd hl (by decide +kernel)
            rcases k with _ | k
            · exact absurd hl (by decide +kernel)
            rcases k with _ | k
            · exact absurd hl (by decide +kernel)
            rcases k with _ | k
            · exact absurd hl (by decide +kernel)
            rcases k with _ | k
            · exact absurd hl (by decide +kernel)
            rcases k with _ | k
            · exact absurd hl (by decide +kernel)
            rcases k with _ | k
            · exact absurd hl (by decide +kernel)
            rcases k with _ | k
            · exact absurd hl (by decide +kernel)
            rcases k with _ | k
            · exact absurd hl (by decide +kernel)
            rcases k with _ | k
            · exact absurd hl (by decide +kernel)
            rcases k with _ | k
            · exact absurd hl (by decide +kernel)
            rcases k with _ | k
            · exact absurd hl (by decide +kernel)
            rcases k with _ | k
            · exact absurd hl (by decide +kernel)
            rcases k with _ | k
            · exact absurd hl (by decide +kernel)
            rcases k with _ | k
            · exact absurd hl (by decide +kernel)
            rcases k with _ | k
            · exact absurd hl (by decide +kernel)
            rcases k with _ | k
            · exact absurd hl (by decide +kernel)
            rcases k with _ | k
            · exact absurd hl (by decide +kernel)
            rcases k with _ | k
            · exact absurd hl (by decide +kernel)
            rcases k with _ | k
            · exact absurd hl (by decide +kernel)
            rcases k with _ | k
            · exact absurd hl (by decide +kernel)
            rcases k with _ | k
            · exact absurd hl (by decide +kernel)
            rcases k with _ | k
            · exact absurd hl (by decide +kernel)
            rcases k with _ | k
            · exact absurd hl (by decide +kernel)
            rcases k with _ | k
            · exact absurd hl (by decide +kernel)
            rcases k with _ | k
            · exact absurd hl (by decide +kernel)
            rcases k with _ | k
            · exact absurd hl (by decide +kernel)
            rcases k with _ | k
            · exact absurd hl (by decide +kernel)
            rcases k with _ | k
            · exact absurd hl (by decide +kernel)
            · simp at hd
          · show Inv.Steps _ _ _ _ _ _ _ _ [0, 1, 2, 3, 4, 5, 6, 7, 8, 9, 10, 11, 12, 13, 14, 15, 16, 17, 18, 19, 20, 21, 22, 23, 24, 25, 26, 27, 28, 29, 30, 31, 32, 33, 34, 35, 36, 37, 38, 39, 40, 41, 42]
            refine Inv.Steps.go (by decide) (by rfl) (fun σ wx hw hd K hK => ?_) ?_
            · simp only [List.getElem_toArray, List.getElem_cons_zero, List.getElem_cons_succ, Act.put, List.setIfInBounds_toArray, List.set_cons_zero, List.set_cons_succ] at hK ⊢
              go_simp
              exact hK.out _ _ hw (Below.refl _ _) (rfl)
            refine Inv.Steps.go (by decide) (by rfl) (fun σ wx hw hd K hK => ?_) ?_
            · obtain e104 : (σ 104) = .int .i64 0 := hd 0 (some 104) (by kernel_rfl) (by rfl)
              simp only [List.getElem_toArray, List.getElem_cons_zero, List.getElem_cons_succ, Act.put, List.setIfInBounds_toArray, List.set_cons_zero, List.set_cons_succ, e104] at hK ⊢
              go_simp
              exact hK.out _ _ hw (Below.refl _ _) (rfl)
            refine Inv.Steps.go (by decide) (by rfl) (fun σ wx hw hd K hK => ?_) ?_
            · obtain e105 : (σ 105) = .bool true := hd 1 (some 105) (by kernel_rfl) (by rfl)
              simp only [List.getElem_toArray, List.getElem_cons_zero, List.getElem_cons_succ, Act.put, List.setIfInBounds_toArray, List.set_cons_zero, List.set_cons_succ, e105] at hK ⊢
              go_simp
              exact hK.out _ _ hw (Below.refl _ _) (rfl)
            refine Inv.Steps.on (by decide) 2 106 true (by rfl) (by rfl) (fun σ wx hw hd => ?_) ?_
            · obtain e106 : (σ 106) = .bool true := hd 2 (some 106) (by kernel_rfl) (by rfl)
              refine ⟨by simp [e106], fun K hK => ?_⟩
              simp only [List.getElem_toArray, List.getElem_cons_zero, List.getElem_cons_succ, Act.put, List.setIfInBounds_toArray, List.set_cons_zero, List.set_cons_succ, e106] at hK ⊢
              go_simp
              exact hK.out _ _ hw (Below.refl _ _) (rfl)
            refine Inv.Steps.on (by decide) 2 106 true (by rfl) (by rfl) (fun σ wx hw hd => ?_) ?_
            · obtain e107 : (σ 107) = .int .i64 0 := hd 3 (some 107) (by kernel_rfl) (by rfl)
              obtain e106 : (σ 106) = .bool true := hd 2 (some 106) (by kernel_rfl) (by rfl)
              refine ⟨by simp [e106], fun K hK => ?_⟩
              simp only [List.getElem_toArray, List.getElem_cons_zero, List.getElem_cons_succ, Act.put, List.setIfInBounds_toArray, List.set_cons_zero, List.set_cons_succ, e107, e106] at hK ⊢
              go_simp
              exact hK.out _ _ hw (Below.refl _ _) (rfl)
            refine Inv.Steps.go (by decide) (by rfl) (fun σ wx hw hd K hK => ?_) ?_
            · obtain e106 : (σ 106) = .bool true := hd 2 (some 106) (by kernel_rfl) (by rfl)
              obtain e108 : (σ 108) = .bool true := hd 4 (some 108) (by kernel_rfl) (by rfl)
              simp only [List.getElem_toArray, List.getElem_cons_zero, List.getElem_cons_succ, Act.put, List.setIfInBounds_toArray, List.set_cons_zero, List.set_cons_succ, e106, e108] at hK ⊢
              go_simp
              exact hK.out _ _ hw (Below.refl _ _) (rfl)
            refine Inv.Steps.go (by decide) (by rfl) (fun σ wx hw hd K hK => ?_) ?_
            · obtain e109 : (σ 109) = .bool true := hd 5 (some 109) (by kernel_rfl) (by rfl)
              simp only [List.getElem_toArray, List.getElem_cons_zero, List.getElem_cons_succ, Act.put, List.setIfInBounds_toArray, List.set_cons_zero, List.set_cons_succ, e109] at hK ⊢
              go_simp
              exact hK.out _ _ hw (Below.refl _ _) (rfl)
            refine Inv.Steps.on (by decide) 6 110 true (by rfl) (by rfl) (fun σ wx hw hd => ?_) ?_
            · obtain e110 : (σ 110) = .bool true := hd 6 (some 110) (by kernel_rfl) (by rfl)
              refine ⟨by simp [e110], fun K hK => ?_⟩
              simp only [List.getElem_toArray, List.getElem_cons_zero, List.getElem_cons_succ, Act.put, List.setIfInBounds_toArray, List.set_cons_zero, List.set_cons_succ, e110] at hK ⊢
              go_simp
              exact hK.out _ _ hw (Below.refl _ _) (rfl)
            refine Inv.Steps.go (by decide) (by rfl) (fun σ wx hw hd K hK => ?_) ?_
            · obtain e110 : (σ 110) = .bool true := hd 6 (some 110) (by kernel_rfl) (by rfl)
              obtain e111 : (σ 111) = .bool true := hd 7 (some 111) (by kernel_rfl) (by rfl)
              simp only [List.getElem_toArray, List.getElem_cons_zero, List.getElem_cons_succ, Act.put, List.setIfInBounds_toArray, List.set_cons_zero, List.set_cons_succ, e110, e111] at hK ⊢
              go_simp
              exact hK.out _ _ hw (Below.refl _ _) (rfl)
            refine Inv.Steps.go (by decide) (by rfl) (fun σ wx hw hd K hK => ?_) ?_
            · obtain e112 : (σ 112) = .bool true := hd 8 (some 112) (by kernel_rfl) (by rfl)
              simp only [List.getElem_toArray, List.getElem_cons_zero, List.getElem_cons_succ, Act.put, List.setIfInBounds_toArray, List.set_cons_zero, List.set_cons_succ, e112] at hK ⊢
              go_simp
              exact hK.out _ _ hw (Below.refl _ _) (rfl)
            refine Inv.Steps.on (by decide) 9 113 true (by rfl) (by rfl) (fun σ wx hw hd => ?_) ?_
            · obtain e113 : (σ 113) = .bool true := hd 9 (some 113) (by kernel_rfl) (by rfl)
              refine ⟨by simp [e113], fun K hK => ?_⟩
              simp only [List.getElem_toArray, List.getElem_cons_zero, List.getElem_cons_succ, Act.put, List.setIfInBounds_toArray, List.set_cons_zero, List.set_cons_succ, e113] at hK ⊢
              go_simp
              exact hK.out _ _ hw (Below.refl _ _) (rfl)
            refine Inv.Steps.on (by decide) 9 113 true (by rfl) (by rfl) (fun σ wx hw hd => ?_) ?_
            · obtain e113 : (σ 113) = .bool true := hd 9 (some 113) (by kernel_rfl) (by rfl)
              refine ⟨by simp [e113], fun K hK => ?_⟩
              simp only [List.getElem_toArray, List.getElem_cons_zero, List.getElem_cons_succ, Act.put, List.setIfInBounds_toArray, List.set_cons_zero, List.set_cons_succ, e113] at hK ⊢
              go_simp
              exact hK.out _ _ hw (Below.refl _ _) (rfl)
            refine Inv.Steps.on (by decide) 9 113 true (by rfl) (by rfl) (fun σ wx hw hd => ?_) ?_
            · obtain e114 : (σ 114) = .int .i64 c := hd 10 (some 114) (by kernel_rfl) (by rfl)
              obtain e115 : (σ 115) = .int .i64 c := hd 11 (some 115) (by kernel_rfl) (by rfl)
              obtain e113 : (σ 113) = .bool true := hd 9 (some 113) (by kernel_rfl) (by rfl)
              refine ⟨by simp [e113], fun K hK => ?_⟩
              simp only [List.getElem_toArray, List.getElem_cons_zero, List.getElem_cons_succ, Act.put, List.setIfInBounds_toArray, List.set_cons_zero, List.set_cons_succ, e114, e115, e113] at hK ⊢
              go_simp
              exact hK.out _ _ hw (Below.refl _ _) (rfl)
            refine Inv.Steps.go (by decide) (by rfl) (fun σ wx hw hd K hK => ?_) ?_
            · obtain e113 : (σ 113) = .bool true := hd 9 (some 113) (by kernel_rfl) (by rfl)
              obtain e116 : (σ 116) = .bool true := hd 12 (some 116) (by kernel_rfl) (by rfl)
              simp only [List.getElem_toArray, List.getElem_cons_zero, List.getElem_cons_succ, Act.put, List.setIfInBounds_toArray, List.set_cons_zero, List.set_cons_succ, e113, e116] at hK ⊢
              go_simp
              exact hK.out _ _ hw (Below.refl _ _) (rfl)
            refine Inv.Steps.go (by decide) (by rfl) (fun σ wx hw hd K hK => ?_) ?_
            · obtain e117 : (σ 117) = .bool true := hd 13 (some 117) (by kernel_rfl) (by rfl)
              simp only [List.getElem_toArray, List.getElem_cons_zero, List.getElem_cons_succ, Act.put, List.setIfInBounds_toArray, List.set_cons_zero, List.set_cons_succ, e117] at hK ⊢
              go_simp
              exact hK.out _ _ hw (Below.refl _ _) (rfl)
            refine Inv.Steps.on (by decide) 14 118 true (by rfl) (by rfl) (fun σ wx hw hd => ?_) ?_
            · obtain e118 : (σ 118) = .bool true := hd 14 (some 118) (by kernel_rfl) (by rfl)
              refine ⟨by simp [e118], fun K hK => ?_⟩
              simp only [List.getElem_toArray, List.getElem_cons_zero, List.getElem_cons_succ, Act.put, List.setIfInBounds_toArray, List.set_cons_zero, List.set_cons_succ, e118] at hK ⊢
              go_simp
              exact hK.out _ _ hw (Below.refl _ _) (rfl)
            refine Inv.Steps.on (by decide) 14 118 true (by rfl) (by rfl) (fun σ wx hw hd => ?_) ?_
            · obtain e118 : (σ 118) = .bool true := hd 14 (some 118) (by kernel_rfl) (by rfl)
              refine ⟨by simp [e118], fun K hK => ?_⟩
              simp only [List.getElem_toArray, List.getElem_cons_zero, List.getElem_cons_succ, Act.put, List.setIfInBounds_toArray, List.set_cons_zero, List.set_cons_succ, e118] at hK ⊢
              go_simp
              exact hK.out _ _ hw (Below.refl _ _) (rfl)
            refine Inv.Steps.on (by decide) 14 118 true (by rfl) (by rfl) (fun σ wx hw hd => ?_) ?_
            · obtain e120 : (σ 120) = vA := hd 16 (some 120) (by kernel_rfl) (by rfl)
              obtain e118 : (σ 118) = .bool true := hd 14 (some 118) (by kernel_rfl) (by rfl)
              refine ⟨by simp [e118], fun K hK => ?_⟩
              simp only [List.getElem_toArray, List.getElem_cons_zero, List.getElem_cons_succ, Act.put, List.setIfInBounds_toArray, List.set_cons_zero, List.set_cons_succ, e120, e118] at hK ⊢
              go_simp
              go_at_call 14
              refine (normal_sv (RA7.out.keep hw) (by decide)).mono ?_
              rintro e wy ⟨⟨r8, rfl, S8⟩, hb⟩
              dsimp only
              exact hK.out _ _ (Buf.then_ hw hb) hb (S8)
            refine Inv.Steps.on (by decide) 14 118 true (by rfl) (by rfl) (fun σ wx hw hd => ?_) ?_
            · obtain e119 : (σ 119) = .slice adY 0 cY := hd 15 (some 119) (by kernel_rfl) (by rfl)
              obtain e121 : Sv wx (σ 121) (hasB A) 5 := hd 17 (some 121) (by kernel_rfl) (by rfl)
              obtain e118 : (σ 118) = .bool true := hd 14 (some 118) (by kernel_rfl) (by rfl)
              refine ⟨by simp [e118], fun K hK => ?_⟩
              simp only [List.getElem_toArray, List.getElem_cons_zero, List.getElem_cons_succ, Act.put, List.setIfInBounds_toArray, List.set_cons_zero, List.set_cons_succ, e119, e118] at hK ⊢
              go_simp
              go_at_call 18
              refine (same_sv (SY7.out.keep hw) e121 (fun _ => rfl) (by decide)).mono ?_
              rintro e wy ⟨rfl, hb⟩
              dsimp only
              exact hK.out _ _ (Buf.then_ hw hb) hb (rfl)
            refine Inv.Steps.go (by decide) (by rfl) (fun σ wx hw hd K hK => ?_) ?_
            · obtain e118 : (σ 118) = .bool true := hd 14 (some 118) (by kernel_rfl) (by rfl)
              obtain e122 : (σ 122) = .bool true := hd 18 (some 122) (by kernel_rfl) (by rfl)
              simp only [List.getElem_toArray, List.getElem_cons_zero, List.getElem_cons_succ, Act.put, List.setIfInBounds_toArray, List.set_cons_zero, List.set_cons_succ, e118, e122] at hK ⊢
              go_simp
              exact hK.out _ _ hw (Below.refl _ _) (rfl)
            refine Inv.Steps.go (by decide) (by rfl) (fun σ wx hw hd K hK => ?_) ?_
            · obtain e123 : (σ 123) = .bool true := hd 19 (some 123) (by kernel_rfl) (by rfl)
              simp only [List.getElem_toArray, List.getElem_cons_zero, List.getElem_cons_succ, Act.put, List.setIfInBounds_toArray, List.set_cons_zero, List.set_cons_succ, e123] at hK ⊢
              go_simp
              exact hK.out _ _ hw (Below.refl _ _) (rfl)
            refine Inv.Steps.on (by decide) 20 124 true (by rfl) (by rfl) (fun σ wx hw hd => ?_) ?_
            · obtain e124 : (σ 124) = .bool true := hd 20 (some 124) (by kernel_rfl) (by rfl)
              refine ⟨by simp [e124], fun K hK => ?_⟩
              simp only [List.getElem_toArray, List.getElem_cons_zero, List.getElem_cons_succ, Act.put, List.setIfInBounds_toArray, List.set_cons_zero, List.set_cons_succ, e124] at hK ⊢
              go_simp
              exact hK.out _ _ hw (Below.refl _ _) (rfl)
            refine Inv.Steps.on (by decide) 20 124 true (by rfl) (by rfl) (fun σ wx hw hd => ?_) ?_
            · obtain e125 : (σ 125) = .slice adX 0 cX := hd 21 (some 125) (by kernel_rfl) (by rfl)
              obtain e124 : (σ 124) = .bool true := hd 20 (some 124) (by kernel_rfl) (by rfl)
              refine ⟨by simp [e124], fun K hK => ?_⟩
              simp only [List.getElem_toArray, List.getElem_cons_zero, List.getElem_cons_succ, Act.put, List.setIfInBounds_toArray, List.set_cons_zero, List.set_cons_succ, e125, e124] at hK ⊢
              go_simp
              exact hK.out _ _ hw (Below.refl _ _) (rfl)
            refine Inv.Steps.on (by decide) 20 124 true (by rfl) (by rfl) (fun σ wx hw hd => ?_) ?_
            · obtain e126 : (σ 126) = .int .i64 0 := hd 22 (some 126) (by kernel_rfl) (by rfl)
              obtain e124 : (σ 124) = .bool true := hd 20 (some 124) (by kernel_rfl) (by rfl)
              refine ⟨by simp [e124], fun K hK => ?_⟩
              simp only [List.getElem_toArray, List.getElem_cons_zero, List.getElem_cons_succ, Act.put, List.setIfInBounds_toArray, List.set_cons_zero, List.set_cons_succ, e126, e124] at hK ⊢
              go_simp
              exact hK.out _ _ hw (Below.refl _ _) (rfl)
            refine Inv.Steps.on (by decide) 20 124 true (by rfl) (by rfl) (fun σ wx hw hd => ?_) ?_
            · obtain e127 : (σ 127) = .bool true := hd 23 (some 127) (by kernel_rfl) (by rfl)
              obtain e124 : (σ 124) = .bool true := hd 20 (some 124) (by kernel_rfl) (by rfl)
              refine ⟨by simp [e124], fun K hK => ?_⟩
              simp only [List.getElem_toArray, List.getElem_cons_zero, List.getElem_cons_succ, Act.put, List.setIfInBounds_toArray, List.set_cons_zero, List.set_cons_succ, e127, e124] at hK ⊢
              go_simp
              exact hK.out _ _ hw (Below.refl _ _) (rfl)
            refine Inv.Steps.off (by decide) 24 128 false (.bool true) (by rfl) (by rfl) (by first | exact .inl rfl | exact .inr rfl) (fun σ wx hw hd => ?_) ?_
            · obtain e128 : (σ 128) = .bool true := hd 24 (some 128) (by kernel_rfl) (by rfl)
              exact ⟨by simp [e128], (Below.refl _ _), trivial⟩
            refine Inv.Steps.off (by decide) 24 128 false (.bool true) (by rfl) (by rfl) (by first | exact .inl rfl | exact .inr rfl) (fun σ wx hw hd => ?_) ?_
            · obtain e128 : (σ 128) = .bool true := hd 24 (some 128) (by kernel_rfl) (by rfl)
              exact ⟨by simp [e128], (Below.refl _ _), trivial⟩
            refine Inv.Steps.off (by decide) 24 128 false (.bool true) (by rfl) (by rfl) (by first | exact .inl rfl | exact .inr rfl) (fun σ wx hw hd => ?_) ?_
            · obtain e128 : (σ 128) = .bool true := hd 24 (some 128) (by kernel_rfl) (by rfl)
              exact ⟨by simp [e128], (Below.refl _ _), trivial⟩
            refine Inv.Steps.off (by decide) 24 128 false (.bool true) (by rfl) (by rfl) (by first | exact .inl rfl | exact .inr rfl) (fun σ wx hw hd => ?_) ?_
            · obtain e128 : (σ 128) = .bool true := hd 24 (some 128) (by kernel_rfl) (by rfl)
              exact ⟨by simp [e128], (Below.refl _ _), trivial⟩
            refine Inv.Steps.off (by decide) 24 128 false (.bool true) (by rfl) (by rfl) (by first | exact .inl rfl | exact .inr rfl) (fun σ wx hw hd => ?_) ?_
            · obtain e128 : (σ 128) = .bool true := hd 24 (some 128) (by kernel_rfl) (by rfl)
              exact ⟨by simp [e128], (Below.refl _ _), trivial⟩
            refine Inv.Steps.off (by decide) 24 128 false (.bool true) (by rfl) (by rfl) (by first | exact .inl rfl | exact .inr rfl) (fun σ wx hw hd => ?_) ?_
            · obtain e128 : (σ 128) = .bool true := hd 24 (some 128) (by kernel_rfl) (by rfl)
              exact ⟨by simp [e128], (Below.refl _ _), trivial⟩
            refine Inv.Steps.off (by decide) 24 128 false (.bool true) (by rfl) (by rfl) (by first | exact .inl rfl | exact .inr rfl) (fun σ wx hw hd => ?_) ?_
            · obtain e128 : (σ 128) = .bool true := hd 24 (some 128) (by kernel_rfl) (by rfl)
              exact ⟨by simp [e128], (Below.refl _ _), trivial⟩
            refine Inv.Steps.off (by decide) 24 128 false (.bool true) (by rfl) (by rfl) (by first | exact .inl rfl | exact .inr rfl) (fun σ wx hw hd => ?_) ?_
            · obtain e128 : (σ 128) = .bool true := hd 24 (some 128) (by kernel_rfl) (by rfl)
              exact ⟨by simp [e128], (Below.refl _ _), trivial⟩
            refine Inv.Steps.off (by decide) 24 128 false (.bool true) (by rfl) (by rfl) (by first | exact .inl rfl | exact .inr rfl) (fun σ wx hw hd => ?_) ?_
            · obtain e128 : (σ 128) = .bool true := hd 24 (some 128) (by kernel_rfl) (by rfl)
              exact ⟨by simp [e128], (Below.refl _ _), trivial⟩
            refine Inv.Steps.off (by decide) 24 128 false (.bool true) (by rfl) (by rfl) (by first | exact .inl rfl | exact .inr rfl) (fun σ wx hw hd => ?_) ?_
            · obtain e128 : (σ 128) = .bool true := hd 24 (some 128) (by kernel_rfl) (by rfl)
              exact ⟨by simp [e128], (Below.refl _ _), trivial⟩
            refine Inv.Steps.off (by decide) 24 128 false (.bool true) (by rfl) (by rfl) (by first | exact .inl rfl | exact .inr rfl) (fun σ wx hw hd => ?_) ?_
            · obtain e128 : (σ 128) = .bool true := hd 24 (some 128) (by kernel_rfl) (by rfl)
              exact ⟨by simp [e128], (Below.refl _ _), trivial⟩
            refine Inv.Steps.off (by decide) 24 128 false (.bool true) (by rfl) (by rfl) (by first | exact .inl rfl | exact .inr rfl) (fun σ wx hw hd => ?_) ?_
            · obtain e128 : (σ 128) = .bool true := hd 24 (some 128) (by kernel_rfl) (by rfl)
              exact ⟨by simp [e128], (Below.refl _ _), trivial⟩
            refine Inv.Steps.on (by decide) 20 124 true (by rfl) (by rfl) (fun σ wx hw hd => ?_) ?_
            · obtain e128 : (σ 128) = .bool true := hd 24 (some 128) (by kernel_rfl) (by rfl)
              obtain e124 : (σ 124) = .bool true := hd 20 (some 124) (by kernel_rfl) (by rfl)
              refine ⟨by simp [e124], fun K hK => ?_⟩
              simp only [List.getElem_toArray, List.getElem_cons_zero, List.getElem_cons_succ, Act.put, List.setIfInBounds_toArray, List.set_cons_zero, List.set_cons_succ, e128, e124] at hK ⊢
              go_simp
              exact hK.out _ _ hw (Below.refl _ _) (rfl)
            refine Inv.Steps.go (by decide) (by rfl) (fun σ wx hw hd K hK => ?_) ?_
            · obtain e124 : (σ 124) = .bool true := hd 20 (some 124) (by kernel_rfl) (by rfl)
              obtain e141 : (σ 141) = .bool true := hd 37 (some 141) (by kernel_rfl) (by rfl)
              simp only [List.getElem_toArray, List.getElem_cons_zero, List.getElem_cons_succ, Act.put, List.setIfInBounds_toArray, List.set_cons_zero, List.set_cons_succ, e124, e141] at hK ⊢
              go_simp
              exact hK.out _ _ hw (Below.refl _ _) (rfl)
            refine Inv.Steps.go (by decide) (by rfl) (fun σ wx hw hd K hK => ?_) ?_
            · obtain e142 : (σ 142) = .bool true := hd 38 (some 142) (by kernel_rfl) (by rfl)
              simp only [List.getElem_toArray, List.getElem_cons_zero, List.getElem_cons_succ, Act.put, List.setIfInBounds_toArray, List.set_cons_zero, List.set_cons_succ, e142] at hK ⊢
              go_simp
              exact hK.out _ _ hw (Below.refl _ _) (rfl)
            refine Inv.Steps.on (by decide) 39 143 true (by rfl) (by rfl) (fun σ wx hw hd => ?_) ?_
            · obtain e143 : (σ 143) = .bool true := hd 39 (some 143) (by kernel_rfl) (by rfl)
              refine ⟨by simp [e143], fun K hK => ?_⟩
              simp only [List.getElem_toArray, List.getElem_cons_zero, List.getElem_cons_succ, Act.put, List.setIfInBounds_toArray, List.set_cons_zero, List.set_cons_succ, e143] at hK ⊢
              go_simp
              go_at_call 7
              refine (Spn.sane_any _).mono ?_
              rintro e wy ⟨rfl, hb⟩
              dsimp only
              exact hK.out _ _ (Buf.then_ hw hb) hb (rfl)
            refine Inv.Steps.go (by decide) (by rfl) (fun σ wx hw hd K hK => ?_) ?_
            · obtain e143 : (σ 143) = .bool true := hd 39 (some 143) (by kernel_rfl) (by rfl)
              obtain e144 : (σ 144) = .bool true := hd 40 (some 144) (by kernel_rfl) (by rfl)
              simp only [List.getElem_toArray, List.getElem_cons_zero, List.getElem_cons_succ, Act.put, List.setIfInBounds_toArray, List.set_cons_zero, List.set_cons_succ, e143, e144] at hK ⊢
              go_simp
              exact hK.out _ _ hw (Below.refl _ _) (rfl)
            refine Inv.Steps.go (by decide) (by rfl) (fun σ wx hw hd K hK => ?_) ?_
            · obtain e145 : (σ 145) = .bool true := hd 41 (some 145) (by kernel_rfl) (by rfl)
              simp only [List.getElem_toArray, List.getElem_cons_zero, List.getElem_cons_succ, Act.put, List.setIfInBounds_toArray, List.set_cons_zero, List.set_cons_succ, e145] at hK ⊢
              go_simp
              exact hK.out _ _ hw (Below.refl _ _) (rfl)
            exact Inv.Steps.nil
          · intro σ wx hw hd
            obtain e6 : (σ 6) = .bool true := hd 42 (some 6) (by rfl) (by rfl)
            refine Inv.done (by kernel_rfl) (NoPanic.normal ?_)
            rw [e6]
            clear e6 hd
            replace hw := Lib.hid hw
            go_wp2_with fail
            go_ret
            exact ⟨rfl, Buf.then_ HD.out (BQ.out.trans (hw.out.mono BQ.out.size))⟩
        · obtain ⟨gx, rfl, hgx, u0, u1⟩ := fX 0 (q1 + a2, q2 + a2) (by rw [hNN]; rfl)
          obtain ⟨gy, rfl, hgy, v0, v1⟩ := fY 0 (q1, q2) (by rw [hNN]; rfl)
          have V : Hid (∀ w', Below x7.heap.size x7 w' → w'.cell? ⟨gx, 0, none⟩ = some (.int .i64 (q1 + a2)) ∧ w'.cell? ⟨gy, 0, none⟩ = some (.int .i64 q1)) := Lib.hid fun w' h => ⟨(h.cell (p := ⟨gx, _, none⟩) hgx).trans u0, (h.cell (p := ⟨gy, _, none⟩) hgy).trans v0⟩
          have i1 := hIN.out (q1, q2) (by rw [hNN]; simp)
          have i2 := HN.out.canon.one (q1, q2) (by rw [hNN]; simp)
          dsimp only at i1 i2
          obtain ⟨nX, hnX⟩ : ∃ nX, nX = (moveL N2 a2).length := ⟨_, rfl⟩
          obtain ⟨nY, hnY⟩ : ∃ nY, nY = N2.length := ⟨_, rfl⟩
          have x0' : 0 < nX := by rw [hnX, moveL_length, hNN]; simp
          have y0' : 0 < nY := by rw [hnY, hNN]; simp
          have dX : ((nX : Int) == 0) = false := by simp; omega
          have dX' : decide ((nX : Int) = 0) = false := by simp; omega
          have dX'' : decide (nX = 0) = false := by simp; omega
          have bX : (0 : Int) < nX := by omega
          have bY : (0 : Int) < nY := by omega
          have ws2 : IntKind.i64.wrap a2 = a2 := IntWalk.i64_in _ (by omega)
          have ws : IntKind.i64.wrap (q1 + a2) = q1 + a2 := IntWalk.i64_in _ (by omega)
          rw [← hNN, ← hnX, ← hnY]
          rw [← hnX] at hcX
          rw [← hnY] at hcY SY7
          replace hnX := Lib.hid hnX
          replace hnY := Lib.hid hnY
          replace hNN := Lib.hid hNN
          clear fX fY u0 u1 v0 v1
          have CNd := Lib.hid (normal_sv (RA7.out.keep (Below.refl _ x7).drew) (by decide))
          have SYd := Lib.hid (SY7.out.keep (Below.refl _ x7).drew)
          have BD := Lib.hid (show Below x7.heap.size x7 x7.drew from (Below.refl _ x7).drew)
          have BD' := BD.out
          go_wp2_with fail
          go_region_held3 (fun w' => w'.cell? ⟨gx, 0, none⟩ = some (.int .i64 (q1 + a2)) ∧ w'.cell? ⟨gy, 0, none⟩ = some (.int .i64 q1)) (first | (with_reducible exact V.out _ (by with_reducible assumption)))
            ((first
              | (go_at_call 14; (with_reducible refine CNd.out.mono ?_); rintro e x8 ⟨⟨r8, rfl, S8⟩, b8⟩; have CS := Lib.hid (same_sv (SYd.out.keep b8) S8 (fun _ => rfl) (by decide)); have B8 := Lib.hid (show Below x7.heap.size x7 x8 from Buf.then_ BD.out b8); have B8' := B8.out; clear S8 b8)
              | (go_at_call 18; (with_reducible refine CS.out.mono ?_); rintro e x9 ⟨rfl, b9⟩; have B9 := Lib.hid (show Below x7.heap.size x7 x9 from Buf.then_ B8.out b9); have B9' := B9.out; clear b9)
              | (go_at_call 7; (with_reducible refine (Spn.sane_any _).mono ?_); rintro e x10 ⟨rfl, b10⟩; have B10 := Lib.hid (show Below x7.heap.size x7 x10 from Buf.then_ B9.out b10); have B10' := B10.out; clear b10)))
          go_wp2_with fail
          go_ret
          exact ⟨rfl, Buf.then_ HD.out (BQ.out.trans (B10.out.mono BQ.out.size))⟩
  · have hd : decide ((len0 : Int) ≤ 500) = false := by simp; omega
    go_enter Try.func5, Try.ntmps5
    go_wp2_with (first | (go_at_call 6; refine (light_any _ _ _ _).mono ?_; rintro e w1 ⟨rfl, rfl⟩; rw [hd]) | (go_at_call 7; refine (Spn.sane_any _).mono ?_; rintro e w2 ⟨rfl, hb⟩))
    go_ret
    exact ⟨rfl, hb⟩
end Laws
end Go.Proofs.Ytmgbkbfnkejemaa
