/- The walk of FilterLate. -/
import Derived.Test.YtkoojgmfnelaiaaFltN
import Derived.Test.YtkoojgmfnelaiaaFltB
import Derived.Test.YtkoojgmfnelaiaaFilS
import Derived.Deep.DeepCutAuto
set_option linter.unusedVariables false
set_option linter.unusedSimpArgs false
namespace Go.Proofs.Ytkoojgmfnelaiaa
open Go.RowKit Wi Dice
namespace Laws
open Fil Flt
set_option maxHeartbeats 8000000 in
set_option maxRecDepth 100000 in
theorem filterLate_walk (a0 : Option Addr) (len0 cap0 : Nat) (z0 : List Int) (a1 : Int) (w : World) (w0 : Buf.IsRow .i64 w a0 len0 cap0 z0) (w1 : (Lit.int .u8 a1).wf = true) :
    Calls Try.prog 5 #[.slice a0 len0 cap0, .int .u8 a1] w fun e w' => e = .returned (.bool true) ∧ Below w.heap.size w w' := by
  obtain ⟨b0, b1⟩ := Ma.wf_u8 w1
  clear w1
  by_cases hs : len0 ≤ 500
  · have hd : decide ((len0 : Int) ≤ 500) = true := by simp; omega
    go_enter Try.func5, Try.ntmps5
    go_upto_region 4 with (first | (go_at_call 7; refine (light_any _ _ _ _).mono ?_; rintro e w1 ⟨rfl, rfl⟩; rw [hd]) | (go_at_call 9; refine (roll_any a0 len0 cap0 z0 _ w0 hs).mono ?_; rintro e w2 ⟨rfl, hdi⟩))
    have hdl := hdi.lt
    have W2 := Lib.hid hdi.bel.size
    go_wp2_with fail
    refine (filter_any hdi).mono ?_
    rintro e w3 ⟨⟨v, l, fac, s, rfl, ho, fg, hl5, hf3, hs6⟩, hl⟩
    obtain ⟨va, vc, rfl⟩ := own_len ho
    rw [ints_len] at ho ⊢
    have n1 := fg.n1
    have f1 := fg.f1
    replace fg := Lib.hid fg
    obtain ⟨n, hn⟩ : ∃ n, n = l.length := ⟨_, rfl⟩
    have SF : SV w3 (.slice va n vc) n (fn l) := by rw [hn]; exact sv_own ho
    rw [← hn] at fg hl5 n1 ⊢
    have OF : Buf.Own w2.heap.size w3 (.slice va n vc) (ints l) := by rw [hn]; exact ho
    clear ho SF
    replace hn := Lib.hid hn
    go_upto_region 5 with fail
    obtain ⟨w4, hw4⟩ : ∃ w4, w4 = w3.alloc (.cells #[.slice va n vc, .int .i64 fac, .int .i64 s] 33) := ⟨_, rfl⟩
    have hb4 : Below w3.heap.size w3 w4 := by rw [hw4]; exact new_block _
    obtain ⟨p6, hp6⟩ : ∃ p, p = w3.heap.size := ⟨_, rfl⟩
    have h6 : w2.heap.size ≤ p6 := by rw [hp6]; exact hl.far.size
    have KA := Lib.hid (show w4.heap[p6]? = some (.cells #[.slice va n vc, .int .i64 fac, .int .i64 s] 33 (0, 0)) by rw [hw4, hp6]; exact heap_alloc_new w3 _)
    replace OF := Lib.hid (OF.below hb4)
    have D4 := Lib.hid (hl.below hb4)
    rw [← hw4, ← hp6]
    clear hw4 hb4 hp6 hl hdi
    go_wp2_with fail
    have I1 := Lib.hid (ints_alloc w4 [1, 2, 4, 20] 3)
    refine (pick_any w4.heap.size [1, 2, 4, 20] 4 4 (D4.out.di.below (new_block _)) (by simpa using I1.out) rfl (by omega) (by omega) (by have := D4.out.di.lt; omega) (by simp)).mono ?_
    rintro e w5 ⟨⟨num, rfl, hnum⟩, hl⟩
    obtain ⟨q, RQ⟩ := rq_of (num := num) (by simpa using hnum)
    replace RQ := Lib.hid RQ
    clear hnum I1
    have h4 : p6 < w4.heap.size := (Array.getElem?_eq_some_iff.1 KA.out).1
    replace KA := Lib.hid ((hl.far.block p6 (by simp; omega) (by simp; omega)).trans ((heap_alloc_old w4 _ h4).trans KA.out))
    replace OF := Lib.hid (own_grown (OF.out.below (new_block _)) hl.far hdl)
    replace D4 := Lib.hid ((D4.out.below (new_block _)).trans hl)
    clear hl h4
    go_wp2_with fail
    refine (wave_any 40 (by decide) (by decide) D4.out.di).mono ?_
    rintro e w6 ⟨⟨xv, x, rfl, hox, hin, hx1, hx40⟩, hl⟩
    have h5 : p6 < w5.heap.size := (Array.getElem?_eq_some_iff.1 KA.out).1
    replace KA := Lib.hid ((hl.far.block p6 h5 (by simp; omega)).trans KA.out)
    replace OF := Lib.hid (own_grown OF.out hl.far hdl)
    replace D4 := Lib.hid (D4.out.trans hl)
    clear hl h5
    obtain ⟨xa, c, rfl, hc, c9, h0⟩ := sv_own hox
    obtain ⟨b, off, rfl, hlt, hcell⟩ := h0 (by omega)
    have RX : Hid (RXo w6 b off x.length c (fn x)) := Lib.hid ⟨hlt, hcell, hx1, by omega, hc, c9, hin⟩
    have SF : Hid (SV w6 (.slice va n vc) n (fn l)) := Lib.hid (by have := sv_own OF.out; rwa [← hn.out] at this)
    have WW := Lib.hid D4.out.di.bel
    clear hox hin h0 hlt hcell OF D4 hc c9
    generalize fn x = X at *
    generalize x.length = L at *
    generalize hT : fn l = T at *
    clear hT hn
    go_upto_region 6 with fail
    obtain ⟨w7, hw7⟩ : ∃ w7, w7 = w6.alloc (.cells #[.int .i64 1000000000000, .int .i64 0, .int .i64 num, .int .i64 1, .int .i64 0, .slice (some ⟨b, off, none⟩) L c] 57) := ⟨_, rfl⟩
    have hb7 : Below w6.heap.size w6 w7 := by rw [hw7]; exact new_block _
    obtain ⟨p7, hp7⟩ : ∃ p, p = w6.heap.size := ⟨_, rfl⟩
    have h67 : p6 < p7 := by rw [hp7]; exact (Array.getElem?_eq_some_iff.1 KA.out).1
    have KS := Lib.hid (show w7.heap[p7]? = some (.cells #[.int .i64 1000000000000, .int .i64 0, .int .i64 num, .int .i64 1, .int .i64 0, .slice (some ⟨b, off, none⟩) L c] 57 (0, 0)) by rw [hw7, hp7]; exact heap_alloc_new w6 _)
    have hb7p : b < p7 := by rw [hp7]; exact RX.out.lt
    replace KA := Lib.hid (hb hb7 KA.out)
    replace SF := Lib.hid (SF.out.below hb7)
    replace RX := Lib.hid (RX.out.keep hb7)
    replace WW := Lib.hid (WW.out.trans (hb7.mono (by have := WW.out.size; omega)))
    rw [← hw7, ← hp7]
    clear hw7 hp7 hb7
    obtain ⟨k, hk⟩ : ∃ k : Nat, a1 % (L : Int) = (k : Int) := ⟨(a1 % (L : Int)).toNat, by have := Int.emod_nonneg a1 (show (L : Int) ≠ 0 by omega); omega⟩
    have hkL : k < L := by have := Int.emod_lt_of_pos a1 (show (0 : Int) < L by omega); omega
    obtain ⟨y0, y1, y2, y3, y4, y5⟩ := c6 KS.out
    go_upto_region 7 with fail
    go_upto_region 8 with fail
    rw [hk]
    clear hk y0 y1 y2 y3 y4 y5
    obtain ⟨w8, hw8⟩ : ∃ w8, w8 = w7.alloc (.cells #[.int .i64 1000000000000, .int .i64 0, .int .i64 num, .int .i64 1, .int .i64 0, .slice (some ⟨b, off, none⟩) L c] 57) := ⟨_, rfl⟩
    have hb8 : Below w7.heap.size w7 w8 := by rw [hw8]; exact new_block _
    obtain ⟨p9, hp9⟩ : ∃ p, p = w7.heap.size := ⟨_, rfl⟩
    have h79 : p7 < p9 := by rw [hp9]; exact (Array.getElem?_eq_some_iff.1 KS.out).1
    have KP := Lib.hid (show w8.heap[p9]? = some (.cells #[.int .i64 1000000000000, .int .i64 0, .int .i64 num, .int .i64 1, .int .i64 0, .slice (some ⟨b, off, none⟩) L c] 57 (0, 0)) by rw [hw8, hp9]; exact heap_alloc_new w7 _)
    have KS8 := Lib.hid (hb hb8 KS.out)
    rw [← hw8, ← hp9]
    clear hw8
    obtain ⟨y0, y1, y2, y3, y4, y5⟩ := c6 KS8.out
    have yk : ∀ u, (w8.setCell ⟨p9, 1, none⟩ u).cell? ⟨p7, 5, none⟩ = some (.slice (some ⟨b, off, none⟩) L c) := fun u => by
      rw [World.cell?_setCell_far _ _ _ _ (by show p9 ≠ p7; omega)]; exact y5
    have g1 := frozen_of_row w8 p9 1 _ _ KP.out
    have g5 : ∀ u, (w8.setCell ⟨p9, 1, none⟩ u).frozen? ⟨p9, 5, none⟩ = false := fun u => frozen_of_row _ p9 5 _ _ (heap_setCell_same w8 p9 1 _ _ u KP.out)
    have z1 := cell_of_row w8 p9 1 _ _ _ KP.out
    have z5 : ∀ u, (w8.setCell ⟨p9, 1, none⟩ u).cell? ⟨p9, 5, none⟩ = some (.slice (some ⟨b, off, none⟩) L c) := fun u => cell_of_row _ p9 5 _ _ _ (heap_setCell_same w8 p9 1 _ _ u KP.out)
    have kc : k ≤ L ∧ L ≤ c := ⟨by omega, RX.out.hc⟩
    replace hp9 := Lib.hid hp9
    go_region
    obtain ⟨w9, hw9⟩ : ∃ w9, w9 = ((w8.setCell ⟨p9, 1, none⟩ (.int .i64 k)).setCell ⟨p9, 5, none⟩ (.slice (some ⟨b, off + k, none⟩) (L - k) (c - k))).drew := ⟨_, rfl⟩
    have hb9 : Below w7.heap.size w7 w9 := by
      rw [hw9]
      exact ((hb8.setCell (p := ⟨p9, 1, none⟩) (by rw [hp9.out]; exact Nat.le_refl _) _).setCell (p := ⟨p9, 5, none⟩) (by rw [hp9.out]; exact Nat.le_refl _) _).drew
    replace KP := Lib.hid (show w9.heap[p9]? = some (.cells #[.int .i64 1000000000000, .int .i64 k, .int .i64 num, .int .i64 1, .int .i64 0, .slice (some ⟨b, off + k, none⟩) (L - k) (c - k)] 57 (0, 0)) by
      rw [hw9]
      exact heap_setCell_same _ p9 5 _ _ _ (heap_setCell_same w8 p9 1 _ _ _ KP.out))
    replace KA := Lib.hid (hb hb9 KA.out)
    replace KS := Lib.hid (hb hb9 KS.out)
    replace SF := Lib.hid (SF.out.below hb9)
    replace RX := Lib.hid (RX.out.keep hb9)
    replace WW := Lib.hid (WW.out.trans (hb9.mono (by have := WW.out.size; omega)))
    rw [← hw9]
    clear hw9 hb9 hb8 hp9 KS8 yk g1 g5 z1 z5 y0 y1 y2 y3 y4 y5
    obtain ⟨A, B, SL⟩ := slow_of RQ.out f1 hf3
    replace SL := Lib.hid SL
    have rr := rq_rv RQ.out
    have PA : Hid (SG 1000000000000 0 num 1 0 0 0) := Lib.hid ⟨by decide, by decide, by decide, by decide, rr, by decide, by decide, by decide, by decide, by decide, by decide⟩
    have PB : Hid (SG 1000000000000 (k : Int) num 1 0 0 0) := Lib.hid ⟨by decide, by decide, by omega, by omega, rr, by decide, by decide, by decide, by decide, by decide, by decide⟩
    have nm := rr.n1
    have nm9 := rr.n2
    have NA : Hid (Rate.numF num 1 (1000000000000 + Rate.el num 1 0) = 1000000 * num) := Lib.hid (by rw [rq_el RQ.out, rq_num RQ.out 0 (by decide)]; omega)
    have NB : Hid (Rate.numF num 1 (1000000000000 + Rate.el num 1 k) = 1000000 * num + k) := Lib.hid (by rw [rq_el RQ.out, rq_num RQ.out k (by omega)])
    have SA := Lib.hid fun (w' : World) (h : Below w9.heap.size w9 w') => (segment_any (SF.out.below h) fg.out PA.out (RX.out.keep h) SL.out.calls NA.out (by omega) (by omega)).mono (fun e w'' hh => And.imp_left segU_of hh)
    have SB := Lib.hid fun (w' : World) (h : Below w9.heap.size w9 w') => (segment_any (SF.out.below h) fg.out PB.out ((RX.out.part k hkL).keep h) SL.out.calls NB.out (by omega) (by omega)).mono (fun e w'' hh => And.imp_left segU_of hh)
    obtain ⟨la, hla⟩ : ∃ la, la = outs T X n s fac (1000000 * num) L := ⟨_, rfl⟩
    obtain ⟨lb, hlb⟩ : ∃ lb, lb = outs T (fun j => X (k + j)) n s fac (1000000 * num + k) (L - k) := ⟨_, rfl⟩
    have LT : Hid (lb ≠ [] → ∃ off, Late T X n s L k fac (1000000 * num) la lb (nx fac (1000000 * num) (n - 1)) (nx fac (1000000 * num + k) (n - 1)) off) := Lib.hid (by rw [hla, hlb]; exact late_of T X n s L k fac (1000000 * num) f1 n1 hkL)
    have L0 : Hid (lb = [] → ((L - k : Nat) : Int) < n + fac) := Lib.hid (by rw [hlb]; exact outs_none T _ n s fac _ f1 n1 (L - k))
    have la9 : la.length ≤ 40 := by rw [hla]; exact Nat.le_trans (outs_len _ _ _ _ _ _ _) hx40
    have lb9 : lb.length ≤ 40 := by rw [hlb]; exact Nat.le_trans (outs_len _ _ _ _ _ _ _) (by omega)
    rw [← hla] at SA
    rw [← hlb] at SB
    have FAb := nx_bd fac (1000000 * num) (n - 1) f1
    have FBb := nx_bd fac (1000000 * num + k) (n - 1) f1
    clear hla hlb PA PB NA NB SF RX
    generalize nx fac (1000000 * num) (n - 1) = FA at *
    generalize nx fac (1000000 * num + k) (n - 1) = FB at *
    obtain ⟨x0, x1, x2⟩ := cells3 KA.out
    obtain ⟨y0, y1, y2, y3, y4, y5⟩ := c6 KS.out
    have ZZ : Hid (Below w9.heap.size w9 w9) := Lib.hid (Below.refl _ _)
    go_wp2_with fail
    refine (SA.out _ ZZ.out).mono ?_
    rintro e w10 ⟨⟨xa, xa2, xa3, xa4, ra, rca, oka, rfl, OA, ya, na⟩, hc⟩
    replace OA := Lib.hid OA
    replace ya := Lib.hid ya
    replace na := Lib.hid na
    go_upto_region 10 with fail
    obtain ⟨w11, hw11⟩ : ∃ w11, w11 = w10.alloc (.cells #[.int .i64 xa, .int .i64 0, .int .i64 xa2, .int .i64 xa3, .int .i64 xa4, .slice ra la.length rca] 57) := ⟨_, rfl⟩
    have hb11 : Below w10.heap.size w10 w11 := by rw [hw11]; exact new_block _
    obtain ⟨pa, hpa⟩ : ∃ p, p = w10.heap.size := ⟨_, rfl⟩
    have KTA := Lib.hid (show w11.heap[pa]? = some (.cells #[.int .i64 xa, .int .i64 0, .int .i64 xa2, .int .i64 xa3, .int .i64 xa4, .slice ra la.length rca] 57 (0, 0)) by rw [hw11, hpa]; exact heap_alloc_new w10 _)
    have hcc := Buf.then_ hc hb11
    replace OA := Lib.hid (OA.out.below hb11)
    replace KA := Lib.hid (hb hcc KA.out)
    replace KS := Lib.hid (hb hcc KS.out)
    replace KP := Lib.hid (hb hcc KP.out)
    replace ZZ := Lib.hid (Buf.then_ ZZ.out hcc)
    rw [← hw11, ← hpa]
    clear hw11 hb11 hpa hc hcc SA x0 x1 x2 y0 y1 y2 y3 y4 y5
    obtain ⟨x0, x1, x2⟩ := cells3 KA.out
    obtain ⟨y0, y1, y2, y3, y4, y5⟩ := c6 KP.out
    go_wp2_with fail
    refine (SB.out _ ZZ.out).mono ?_
    rintro e w12 ⟨⟨xb, xb2, xb3, xb4, rb, rcb, okb, rfl, OB, yb, nb⟩, hc⟩
    replace OB := Lib.hid OB
    replace yb := Lib.hid yb
    replace nb := Lib.hid nb
    go_upto_region 11 with fail
    obtain ⟨w13, hw13⟩ : ∃ w13, w13 = w12.alloc (.cells #[.int .i64 xb, .int .i64 0, .int .i64 xb2, .int .i64 xb3, .int .i64 xb4, .slice rb lb.length rcb] 57) := ⟨_, rfl⟩
    have hb13 : Below w12.heap.size w12 w13 := by rw [hw13]; exact new_block _
    obtain ⟨pb, hpb⟩ : ∃ p, p = w12.heap.size := ⟨_, rfl⟩
    have KTB := Lib.hid (show w13.heap[pb]? = some (.cells #[.int .i64 xb, .int .i64 0, .int .i64 xb2, .int .i64 xb3, .int .i64 xb4, .slice rb lb.length rcb] 57 (0, 0)) by rw [hw13, hpb]; exact heap_alloc_new w12 _)
    have hcc := Buf.then_ hc hb13
    replace OB := Lib.hid (OB.out.below hb13)
    replace OA := Lib.hid (OA.out.below hcc)
    replace KA := Lib.hid (hb hcc KA.out)
    replace KS := Lib.hid (hb hcc KS.out)
    replace KP := Lib.hid (hb hcc KP.out)
    replace KTA := Lib.hid (hb hcc KTA.out)
    replace ZZ := Lib.hid (Buf.then_ ZZ.out hcc)
    replace WW := Lib.hid (WW.out.trans (ZZ.out.mono (by have := WW.out.size; omega)))
    rw [← hw13, ← hpb]
    clear hw13 hb13 hpb hc hcc SB x0 x1 x2 y0 y1 y2 y3 y4 y5 ZZ
    have SN := Lib.hid sane_any
    cases okb with
    | false =>
      have hl0 := L0.out (nb.out rfl)
      obtain ⟨x0, x1, x2⟩ := cells3 KA.out
      obtain ⟨y0, y1, y2, y3, y4, y5⟩ := c6 KP.out
      go_wp2_with (go_at_call 8; with_reducible refine (SN.out _).mono ?_; rintro e w14 ⟨rfl, hc⟩)
      go_ret
      exact ⟨rfl, WW.out.trans (hc.mono (by have := WW.out.size; omega))⟩
    | true =>
      obtain ⟨hne, e1, e2, e3⟩ := yb.out rfl
      obtain ⟨off', LTE⟩ := LT.out hne
      have hblen : 1 ≤ lb.length := List.length_pos_iff.2 hne
      have hlen := LTE.len
      have hoka : oka = true := by
        cases oka with
        | true => rfl
        | false => have := na.out rfl; rw [this] at hlen; simp at hlen; omega
      subst hoka
      obtain ⟨_, f1', f2', f3'⟩ := ya.out rfl
      subst xa2 xa3 xb2 xb3
      have q1 : 1 ≤ q ∧ q ≤ 1000000 := by
        rcases RQ.out with ⟨_, h⟩ | ⟨_, h⟩ | ⟨_, h⟩ | ⟨_, h⟩ <;> omega
      rw [rq_el RQ.out] at e1 f1'
      rw [Int.zero_add] at f1'
      have mA0 : 0 ≤ FA * q := Int.mul_nonneg (by omega) (by omega)
      have mA1 : FA * q ≤ 100 * 1000000 := Int.mul_le_mul (by omega) q1.2 (by omega) (by omega)
      have mB0 : 0 ≤ (k + FB) * q := Int.mul_nonneg (by omega) (by omega)
      have mB1 : (k + FB) * q ≤ 200 * 1000000 := Int.mul_le_mul (by omega) q1.2 (by omega) (by omega)
      have bxa : 0 ≤ xa ∧ xa ≤ 9007199254740992 := by omega
      have bxb : 0 ≤ xb ∧ xb ≤ 9007199254740992 := by omega
      have TE : Hid (∀ i : Nat, xa + Rate.el A B ((off' + i : Nat) : Int) = xb + Rate.el A B i) := Lib.hid fun i => by
        rw [SL.out.el, SL.out.el, f1', e1]
        have := same_time 1000000000000 FA FB fac q k off' i LTE.at_
        rw [Int.natCast_add]
        omega
      have TI := Lib.hid fun (w' : World) (i : Nat) (h : i < lb.length) => Rate.ref_time_ok xb A B (i : Int) SL.out.rv w' bxb.1 bxb.2 (by omega) (by omega)
      have TJ := Lib.hid fun (w' : World) (i : Nat) (h : i < lb.length) => (by
        have := Rate.ref_time_ok xa A B ((off' + i : Nat) : Int) SL.out.rv w' bxa.1 bxa.2 (by omega) (by omega)
        rwa [TE.out i] at this : Calls Try.prog 24 #[.int .i64 xa, .agg #[.int .i64 A, .int .i64 B], .int .i64 ((off' + i : Nat) : Int)] w' fun e w'' => e = .returned (.tuple #[.int .i64 (xb + Rate.el A B i), .int .i64 0]) ∧ Below w'.heap.size w' w'')
      have mF : (k + n - 1) * q ≤ (k + FB) * q := Int.mul_le_mul_of_nonneg_right (by omega) (by omega)
      have TF := Lib.hid fun (w' : World) => Rate.ref_time_ok 1000000000000 num 1 ((k : Int) + n - 1) rr w' (by decide) (by decide) (by omega) (by omega)
      rw [rq_el RQ.out] at TF
      have hge : 1000000000000 + ((k : Int) + n - 1) * q ≤ xb := by omega
      clear mF mA0 mA1 mB0 mB1
      generalize 1000000000000 + ((k : Int) + n - 1) * q = tF at *
      have hoff : ((la.length : Int) - (lb.length : Int)) = (off' : Int) := by omega
      have EQ := Lib.hid LTE.eq
      obtain ⟨ra', rca', hra, hc1, hc2, hc3⟩ := sv_own OA.out
      obtain ⟨ga, oa, hra2, ga9, gac⟩ := hc3 (by omega)
      obtain ⟨rb', rcb', hrb, hd1, hd2, hd3⟩ := sv_own OB.out
      obtain ⟨gb, ob, hrb2, gb9, gbc⟩ := hd3 (by omega)
      obtain ⟨hra3, hra4⟩ : ra' = ra ∧ rca' = rca := by cases hra; exact ⟨rfl, rfl⟩
      obtain ⟨hrb3, hrb4⟩ : rb' = rb ∧ rcb' = rcb := by cases hrb; exact ⟨rfl, rfl⟩
      subst hra3 hra4 hrb3 hrb4 hra2 hrb2
      clear hra hrb hc3 hd3
      have CA : Hid (ga < w13.heap.size ∧ ∀ j, j < la.length → w13.cell? ⟨ga, oa + j, none⟩ = some (.int .i64 (fn la j))) := Lib.hid ⟨ga9, gac⟩
      have CB : Hid (gb < w13.heap.size ∧ ∀ j, j < lb.length → w13.cell? ⟨gb, ob + j, none⟩ = some (.int .i64 (fn lb j))) := Lib.hid ⟨gb9, gbc⟩
      replace hlen := Lib.hid hlen
      replace e1 := Lib.hid e1
      replace f1' := Lib.hid f1'
      replace hne := Lib.hid hne
      clear ga9 gac gb9 gbc LTE L0 LT na nb ya yb OA OB
      generalize hAA : la.length = la' at *
      generalize hBB : lb.length = lb' at *
      replace hAA := Lib.hid hAA
      replace hBB := Lib.hid hBB
      obtain ⟨x0, x1, x2, x3, x4, x5⟩ := c6 KTA.out
      obtain ⟨y0, y1, y2, y3, y4, y5⟩ := c6 KTB.out
      go_upto_region 18 with fail
      clear x0 x1 x2 x3 x4 x5 y0 y1 y2 y3 y4
      go_wp2_with fail
      clear y5
      go_loopw [111] (fun u wr => ∃ i : Nat, i ≤ lb' ∧ u = .int .i64 i ∧ Hid (Below w13.heap.size w13 wr)) (fun u _ => lb' - (intOf u).toNat)
      case atStart => exact ⟨0, by omega, rfl, Lib.hid (Below.refl _ _)⟩
      case round =>
        obtain ⟨i, hi, rfl, hw⟩ := hrel
        by_cases hlt : i < lb'
        · have hiI : (i : Int) < lb' := by omega
          obtain ⟨m, hm⟩ : ∃ m : Nat, m = off' + i := ⟨_, rfl⟩
          have hmI : (off' : Int) + i = (m : Int) := by omega
          have C1 := Lib.hid (fun w' => TJ.out w' i hlt)
          have C2 := Lib.hid (fun w' => TI.out w' i hlt)
          have EV := Lib.hid (EQ.out i hlt)
          have CAm := Lib.hid (CA.out.2 m (by omega))
          have CBi := Lib.hid (CB.out.2 i hlt)
          rw [← hm] at C1 EV
          rw [EV.out] at CAm
          have hml : m < la' := by omega
          replace hm := Lib.hid hm
          generalize xb + Rate.el A B i = tI at C1 C2
          generalize fn lb i = v at CAm CBi
          clear EV
          have tIs : (tI != tI) = false := by simp
          have vs : (v != v) = false := by simp
          have KTA1 := Lib.hid (hb hw.out KTA.out)
          have KTB1 := Lib.hid (hb hw.out KTB.out)
          obtain ⟨x0, x1, x2, x3, x4, x5⟩ := c6 KTA1.out
          obtain ⟨y0, y1, y2, y3, y4, y5⟩ := c6 KTB1.out
          go_upto_region 22 with (go_at_call 24; with_reducible refine (C1.out _).mono ?_; rintro e w14 ⟨rfl, hc⟩)
          replace hw := Lib.hid (Buf.then_ hw.out hc)
          replace KTA1 := Lib.hid (hb hc KTA1.out)
          replace KTB1 := Lib.hid (hb hc KTB1.out)
          clear hc x0 x1 x2 x3 x4 x5 y0 y1 y2 y3 y4 y5
          obtain ⟨x0, x1, x2, x3, x4, x5⟩ := c6 KTA1.out
          obtain ⟨y0, y1, y2, y3, y4, y5⟩ := c6 KTB1.out
          go_upto_region 23 with (go_at_call 24; with_reducible refine (C2.out _).mono ?_; rintro e w15 ⟨rfl, hc⟩)
          replace hw := Lib.hid (Buf.then_ hw.out hc)
          replace KTA1 := Lib.hid (hb hc KTA1.out)
          replace KTB1 := Lib.hid (hb hc KTB1.out)
          clear hc x0 x1 x2 x3 x4 x5 y0 y1 y2 y3 y4 y5
          obtain ⟨x0, x1, x2, x3, x4, x5⟩ := c6 KTA1.out
          obtain ⟨y0, y1, y2, y3, y4, y5⟩ := c6 KTB1.out
          have s1 := (hw.out.cell (p := ⟨ga, oa + m, none⟩) CA.out.1).trans CAm.out
          have s2 := (hw.out.cell (p := ⟨gb, ob + i, none⟩) CB.out.1).trans CBi.out
          go_quiet (fail)
          go_wp2_with fail
          go_roundw
          case rel => exact ⟨i + 1, by omega, by go_num, Lib.hid (Buf.below_drewN hw.out _)⟩
          case measure => simp [intOf]; omega
        · obtain rfl : i = lb' := by omega
          have KTB1 := Lib.hid (hb hw.out KTB.out)
          have KA1 := Lib.hid (hb hw.out KA.out)
          have KS1 := Lib.hid (hb hw.out KS.out)
          obtain ⟨x0, x1, x2⟩ := cells3 KA1.out
          obtain ⟨y0, y1, y2, y3, y4, y5⟩ := c6 KS1.out
          go_upto_region 27 with (go_at_call 24; with_reducible refine (TF.out _).mono ?_; rintro e w14 ⟨rfl, hc⟩)
          replace hw := Lib.hid (Buf.then_ hw.out hc)
          replace KTB1 := Lib.hid (hb hc KTB1.out)
          clear hc x0 x1 x2 y0 y1 y2 y3 y4 y5
          obtain ⟨y0, y1, y2, y3, y4, y5⟩ := c6 KTB1.out
          go_wp2_with (go_at_call 8; with_reducible refine (SN.out _).mono ?_; rintro e w15 ⟨rfl, hc⟩)
          go_ret
          exact ⟨rfl, WW.out.trans ((Buf.then_ hw.out hc).mono (by have := WW.out.size; omega))⟩
  · have hd : decide ((len0 : Int) ≤ 500) = false := by simp; omega
    have SN := Lib.hid sane_any
    go_enter Try.func5, Try.ntmps5
    go_wp2_with (first | (go_at_call 7; refine (light_any _ _ _ _).mono ?_; rintro e w1 ⟨rfl, rfl⟩; rw [hd]) | (go_at_call 8; with_reducible refine (SN.out _).mono ?_; rintro e w2 ⟨rfl, hc⟩))
    go_ret
    exact ⟨rfl, hc⟩
end Laws
end Go.Proofs.Ytkoojgmfnelaiaa
