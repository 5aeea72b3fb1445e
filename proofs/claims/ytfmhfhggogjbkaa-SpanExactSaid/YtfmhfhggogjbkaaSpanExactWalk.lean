/- The walk of SpanExact. -/
import Derived.Test.YtfmhfhggogjbkaaItB
import Derived.Test.YtfmhfhggogjbkaaItC
import Derived.Test.YtfmhfhggogjbkaaItV
import Derived.Test.YtfmhfhggogjbkaaSpnJ
import Derived.Test.YtfmhfhggogjbkaaRcvF
import Derived.RegionTactic
set_option linter.unusedVariables false
set_option linter.unusedSimpArgs false
namespace Go.Proofs.Ytfmhfhggogjbkaa
open Go.RowKit Dice
namespace Laws
open Spn
open Sp (Spans own_below)
/-- A list of spans of the law: any numbers that are ints, not in the dice's block d. -/
structure Lst (d : Nat) (w : World) (v : Value) (L : LP) : Prop where
  its : Itw w v L
  bd : Inside L (-9223372036854775808) 9223372036854775807
  len : L.length ≤ 30
  ne : L ≠ [] → v.ownBlock ≠ some d
theorem Lst.keep {d : Nat} {w w' : World} {v : Value} {L : LP} (h : Lst d w v L) (hb : Below w.heap.size w w') : Lst d w' v L := ⟨h.its.keep hb, h.bd, h.len, h.ne⟩
theorem Lst.left {W w w' : World} {d : Nat} {a : Option Addr} {len cap : Nat} {zs : List Int} {v : Value} {L : LP} (h : Lst d w v L) (hl : Dice.Left W w w' d a len cap zs) : Lst d w' v L :=
  ⟨h.its.far hl.far h.ne, h.bd, h.len, h.ne⟩
/-- The memory of the outer loop. -/
structure SX (W : World) (d : Nat) (a : Option Addr) (len cap : Nat) (zs : List Int) (bP : Nat) (va vb vr : Value) (A B R : LP) (wr : World) : Prop where
  di : Di W wr d a len cap zs
  a_ : Lst d wr va A
  b_ : Lst d wr vb B
  r_ : Lst d wr vr R
  P : wr.heap[bP]? = some (.cells #[va, vb, vr, va, vb, vr] 29 (0, 0))
  ne : bP ≠ d
section
variable {W : World} {d : Nat} {a : Option Addr} {len cap : Nat} {zs : List Int} {bP : Nat} {va vb vr : Value} {A B R : LP} {wr w' : World}
theorem SX.below (o : SX W d a len cap zs bP va vb vr A B R wr) (hb : Below wr.heap.size wr w') : SX W d a len cap zs bP va vb vr A B R w' :=
  ⟨o.di.below hb, o.a_.keep hb, o.b_.keep hb, o.r_.keep hb, Spn.hop hb o.P, o.ne⟩
theorem SX.left (o : SX W d a len cap zs bP va vb vr A B R wr) (hl : Dice.Left W wr w' d a len cap zs) : SX W d a len cap zs bP va vb vr A B R w' :=
  ⟨hl.di, o.a_.left hl, o.b_.left hl, o.r_.left hl, (hl.far.block bP (Array.getElem?_eq_some_iff.1 o.P).1 (by have := o.ne; simpa using this)).trans o.P, o.ne⟩
end
set_option tactic.hygienic false in
set_option maxHeartbeats 16000000 in
set_option maxRecDepth 100000 in
theorem spanExact_walk (a0 : Option Addr) (len0 cap0 : Nat) (z0 : List Int) (v1 : Value) (R : LP) (ax an ab : Int) (w : World) (w0 : Buf.IsRow .i64 w a0 len0 cap0 z0) (r0 : Itw w v1 R) (r1 : Inside R (-9223372036854775808) 9223372036854775807) (w2 : (Lit.int .i64 ax).wf = true) (w3 : (Lit.int .i64 an).wf = true) (w4 : (Lit.int .i64 ab).wf = true) :
    Calls Try.prog 3 #[.slice a0 len0 cap0, v1, .int .i64 ax, .int .i64 an, .int .i64 ab] w fun e w' => e = .returned (.bool true) ∧ Below w.heap.size w w' := by
  have SN := Lib.hid Spn.sane_any
  obtain ⟨ax0, ax9⟩ : -9223372036854775808 ≤ ax ∧ ax ≤ 9223372036854775807 := Ma.wf_i64 w2
  obtain ⟨an0, an9⟩ : -9223372036854775808 ≤ an ∧ an ≤ 9223372036854775807 := Ma.wf_i64 w3
  obtain ⟨ab0, ab9⟩ : -9223372036854775808 ≤ ab ∧ ab ≤ 9223372036854775807 := Ma.wf_i64 w4
  obtain ⟨ra, rc, hv, _⟩ := itw_form r0
  subst hv
  obtain ⟨rl, hrl⟩ : ∃ rl, rl = R.length := ⟨_, rfl⟩
  rw [← hrl] at r0 ⊢
  replace hrl := Lib.hid hrl
  have R0 := Lib.hid r0
  have R1 := Lib.hid r1
  clear r0 r1
  by_cases hs : len0 ≤ 500
  · have hd : decide ((len0 : Int) ≤ 500) = true := by simp; omega
    by_cases hr : rl ≤ 30
    · have hd2 : decide ((30 : Int) < (rl : Int)) = false := decide_eq_false (by omega)
      go_enter Try.func3, Try.ntmps3
      go_upto_region 3 with (go_at_call 11; refine (light_any _ _ _ _).mono ?_; rintro e w1 ⟨rfl, hw⟩; replace hw := hw.symm; subst hw; rw [hd])
      go_wp2_with fail
      refine (roll_any a0 len0 cap0 z0 _ w0 hs).mono ?_
      rintro e wd ⟨rfl, hdi⟩
      have RL := Lib.hid (show Lst w.heap.size wd (.slice ra rl rc) R from ⟨R0.out.keep hdi.bel, R1.out, by have := hrl.out; omega, R0.out.apart (Nat.le_refl _)⟩)
      clear hd2
      go_wp2_with fail
      refine (Spn.spans_any hdi).mono ?_
      rintro e we ⟨⟨va, LA, rfl, OA, lA, iA⟩, hl⟩
      have DA := Lib.hid hl.di
      replace RL := Lib.hid (RL.out.left hl)
      have SA := Lib.hid (show Lst w.heap.size we va LA from ⟨(its_of_own OA).wide, fun p hp => by have := iA p hp; omega, by omega, (its_of_own OA).apart (Rcv.dice_cell hl.di)⟩)
      clear hdi hl OA lA iA
      go_wp2_with fail
      refine (Spn.spans_any DA.out).mono ?_
      rintro e wf ⟨⟨vb, LB, rfl, OB, lB, iB⟩, hl⟩
      have DB := Lib.hid hl.di
      replace RL := Lib.hid (RL.out.left hl)
      replace SA := Lib.hid (SA.out.left hl)
      have SB := Lib.hid (show Lst w.heap.size wf vb LB from ⟨(its_of_own OB).wide, fun p hp => by have := iB p hp; omega, by omega, (its_of_own OB).apart (Rcv.dice_cell hl.di)⟩)
      clear DA hl OB lB iB
      obtain ⟨aa, ac, hva, _⟩ := itw_form SA.out.its
      obtain ⟨ba, bc, hvb, _⟩ := itw_form SB.out.its
      subst hva hvb
      obtain ⟨la, hla⟩ : ∃ la, la = LA.length := ⟨_, rfl⟩
      obtain ⟨lb, hlb⟩ : ∃ lb, lb = LB.length := ⟨_, rfl⟩
      rw [← hla] at SA ⊢
      rw [← hlb] at SB ⊢
      replace hla := Lib.hid hla
      replace hlb := Lib.hid hlb
      go_upto_region 6 with fail
      obtain ⟨wA, hwA⟩ : ∃ wA, wA = wf.alloc (.cells #[.slice aa la ac, .slice ba lb bc, .slice ra rl rc, .slice aa la ac, .slice ba lb bc, .slice ra rl rc] 29) := ⟨_, rfl⟩
      obtain ⟨bP, hbP⟩ : ∃ bP, bP = wf.heap.size := ⟨_, rfl⟩
      have S0 : Hid (SX w w.heap.size a0 len0 cap0 z0 bP (.slice aa la ac) (.slice ba lb bc) (.slice ra rl rc) LA LB R wA) := Lib.hid (by
        have BA : Below wf.heap.size wf wA := by rw [hwA]; exact new_block _
        exact ⟨DB.out.below BA, SA.out.keep BA, SB.out.keep BA, RL.out.keep BA, by rw [hwA, hbP]; exact heap_alloc_new wf _, by have := DB.out.lt; omega⟩)
      rw [← hwA, ← hbP]
      clear hwA hbP DB SA SB RL
      go_loopw [58] (fun i wr => ∃ j : Nat, j ≤ 3 ∧ i = .int .i64 j ∧ Hid (SX w w.heap.size a0 len0 cap0 z0 bP (.slice aa la ac) (.slice ba lb bc) (.slice ra rl rc) LA LB R wr)) (fun i _ => (3 - intOf i).toNat)
      case atStart => exact ⟨0, by omega, rfl, S0⟩
      case round =>
        clear S0
        obtain ⟨jo, hjo, rfl, O⟩ := hrel
        by_cases hj3 : jo < 3
        · obtain ⟨pa, pl, pc, P, qa, ql, qc, Q, cp, cq, pq⟩ : ∃ (pa : Option Addr) (pl pc : Nat) (P : LP) (qa : Option Addr) (ql qc : Nat) (Q : LP), wr.cell? ⟨bP, jo * 2, none⟩ = some (.slice pa pl pc) ∧ wr.cell? ⟨bP, jo * 2 + 1, none⟩ = some (.slice qa ql qc) ∧ ∀ wz, SX w w.heap.size a0 len0 cap0 z0 bP (.slice aa la ac) (.slice ba lb bc) (.slice ra rl rc) LA LB R wz → Lst w.heap.size wz (.slice pa pl pc) P ∧ Lst w.heap.size wz (.slice qa ql qc) Q := by
            rcases (show jo = 0 ∨ jo = 1 ∨ jo = 2 by omega) with rfl | rfl | rfl
            · exact ⟨_, _, _, _, _, _, _, _, cell_of_row wr bP 0 _ _ _ O.out.P, cell_of_row wr bP 1 _ _ _ O.out.P, fun wz o => ⟨o.a_, o.b_⟩⟩
            · exact ⟨_, _, _, _, _, _, _, _, cell_of_row wr bP 2 _ _ _ O.out.P, cell_of_row wr bP 3 _ _ _ O.out.P, fun wz o => ⟨o.r_, o.a_⟩⟩
            · exact ⟨_, _, _, _, _, _, _, _, cell_of_row wr bP 4 _ _ _ O.out.P, cell_of_row wr bP 5 _ _ _ O.out.P, fun wz o => ⟨o.b_, o.r_⟩⟩
          have PQ := Lib.hid pq
          have bjo : (jo : Int) < 3 := by omega
          clear pq
          go_upto_region 8 with fail
          obtain ⟨wB, hwB⟩ : ∃ wB, wB = wr.alloc (.cells #[.slice pa pl pc, .slice qa ql qc] 29) := ⟨_, rfl⟩
          obtain ⟨b15, hb15⟩ : ∃ b15, b15 = wr.heap.size := ⟨_, rfl⟩
          have P15 : wB.heap[b15]? = some (.cells #[.slice pa pl pc, .slice qa ql qc] 29 (0, 0)) := by rw [hwB, hb15]; exact heap_alloc_new wr _
          have O1 := Lib.hid (O.out.below (show Below wr.heap.size wr wB by rw [hwB]; exact new_block _))
          rw [← hwB, ← hb15]
          clear hwB hb15 O cp cq
          have d0 := cell_of_row wB b15 0 _ _ _ P15
          have d1 := cell_of_row wB b15 1 _ _ _ P15
          simp at d0 d1
          have IP := Lib.hid (PQ.out _ O1.out).1
          have IQ := Lib.hid (PQ.out _ O1.out).2
          have lP := IP.out.len
          have lQ := IQ.out.len
          clear P15
          go_quiet (fail)
          have BC := Lib.hid (show Below wB.heap.size wB (wB.drewN nq) from Buf.below_drewN (Below.refl _ _) _)
          clear d0 d1
          go_wp2_with fail
          refine (union_anyw (IP.out.its.keep BC.out) (IQ.out.its.keep BC.out) (by omega) (by omega)).mono ?_
          rintro e wx ⟨⟨rA, NA, rfl, OA, IA, lA⟩, hA⟩
          obtain ⟨sA, cA, rfl⟩ := own_len OA
          replace BC := Lib.hid (Buf.then_ BC.out hA)
          clear hA
          go_wp2_with fail
          refine (refunion_anyw (IP.out.its.keep BC.out) (IQ.out.its.keep BC.out) (by omega) (by omega)).mono ?_
          rintro e wy ⟨⟨rB, NB, rfl, OB, IB, lB⟩, hB⟩
          obtain ⟨sB, cB, rfl⟩ := own_len OB
          obtain rfl := Is.unique IA IB
          have SY := Lib.hid (same_yes (its_of_own (own_below OA hB)) (its_of_own OB) (by omega))
          replace BC := Lib.hid (Buf.then_ BC.out hB)
          clear OA OB IA IB hB lA lB
          go_wp2_with fail
          refine SY.out.mono ?_
          rintro e wz ⟨rfl, hC⟩
          replace BC := Lib.hid (Buf.then_ BC.out hC)
          clear hC SY
          go_wp2_with fail
          refine (meet_anyw (IP.out.its.keep BC.out) (IQ.out.its.keep BC.out) (by omega) (by omega)).mono ?_
          rintro e wx ⟨⟨rA, NA, rfl, OA, IA, lA⟩, hA⟩
          obtain ⟨sA, cA, rfl⟩ := own_len OA
          replace BC := Lib.hid (Buf.then_ BC.out hA)
          clear hA
          go_wp2_with fail
          refine (refmeet_genw (IP.out.its.keep BC.out) (IQ.out.its.keep BC.out) (by omega) (by omega)).mono ?_
          rintro e wy ⟨⟨rB, NB, rfl, OB, IB, lB⟩, hB⟩
          obtain ⟨sB, cB, rfl⟩ := own_len OB
          obtain rfl := Is.unique IA IB
          have SY := Lib.hid (same_yes (its_of_own (own_below OA hB)) (its_of_own OB) (by omega))
          replace BC := Lib.hid (Buf.then_ BC.out hB)
          clear OA OB IA IB hB lA lB
          go_wp2_with fail
          refine SY.out.mono ?_
          rintro e wz ⟨rfl, hC⟩
          replace BC := Lib.hid (Buf.then_ BC.out hC)
          clear hC SY
          go_wp2_with fail
          refine (minus_anyw (IP.out.its.keep BC.out) (IQ.out.its.keep BC.out) (by omega) (by omega)).mono ?_
          rintro e wx ⟨⟨rA, NA, rfl, OA, IA, lA⟩, hA⟩
          obtain ⟨sA, cA, rfl⟩ := own_len OA
          replace BC := Lib.hid (Buf.then_ BC.out hA)
          clear hA
          go_wp2_with fail
          refine (refminus_genw (IP.out.its.keep BC.out) (IQ.out.its.keep BC.out) (by omega) (by omega)).mono ?_
          rintro e wy ⟨⟨rB, NB, rfl, OB, IB, lB⟩, hB⟩
          obtain ⟨sB, cB, rfl⟩ := own_len OB
          obtain rfl := Is.unique IA IB
          have SY := Lib.hid (same_yes (its_of_own (own_below OA hB)) (its_of_own OB) (by omega))
          replace BC := Lib.hid (Buf.then_ BC.out hB)
          clear OA OB IA IB hB lA lB
          go_wp2_with fail
          refine SY.out.mono ?_
          rintro e wz ⟨rfl, hC⟩
          replace BC := Lib.hid (Buf.then_ BC.out hC)
          clear hC SY
          go_wp2_with fail
          refine (normal_anyw (IP.out.its.keep BC.out) (by omega)).mono ?_
          rintro e wx ⟨⟨rA, NA, rfl, OA, IA, lA⟩, hA⟩
          obtain ⟨sA, cA, rfl⟩ := own_len OA
          replace BC := Lib.hid (Buf.then_ BC.out hA)
          clear hA
          go_wp2_with fail
          refine (refnormal_anyw (IP.out.its.keep BC.out) (by omega)).mono ?_
          rintro e wy ⟨⟨rB, NB, rfl, OB, IB, lB⟩, hB⟩
          obtain ⟨sB, cB, rfl⟩ := own_len OB
          obtain rfl := Is.unique IA IB
          have SY := Lib.hid (same_yes (its_of_own (own_below OA hB)) (its_of_own OB) (by omega))
          replace BC := Lib.hid (Buf.then_ BC.out hB)
          obtain ⟨N0, hN0⟩ : ∃ N0, N0 = NA := ⟨_, rfl⟩
          have IN0 := Lib.hid (show Is N0 (hasB P) ∧ N0.length ≤ 30 from by rw [hN0]; exact ⟨IA, by omega⟩)
          clear hN0
          clear OA OB IA IB hB lA lB
          go_wp2_with fail
          refine SY.out.mono ?_
          rintro e wz ⟨rfl, hC⟩
          replace BC := Lib.hid (Buf.then_ BC.out hC)
          clear hC SY
          obtain ⟨vb, hvb⟩ : ∃ vb : Bool, vb = true ↔ Canon P := by by_cases h : Canon P; exact ⟨true, by simp [h]⟩; exact ⟨false, by simp [h]⟩
          go_wp2_with fail
          refine (valid_anyw vb hvb (IP.out.its.keep BC.out) (by omega)).mono ?_
          rintro e wx ⟨rfl, hA⟩
          replace BC := Lib.hid (Buf.then_ BC.out hA)
          clear hA
          go_wp2_with fail
          refine (refvalid08_anyw vb hvb (IP.out.its.keep BC.out) (by omega)).mono ?_
          rintro e wx ⟨rfl, hA⟩
          replace BC := Lib.hid (Buf.then_ BC.out hA)
          clear hA hvb
          have O2 := Lib.hid (O1.out.below BC.out)
          clear O1 IP IQ BC
          go_wp2_with fail
          refine (next_any 40 O2.out.di (by omega) (by omega)).mono ?_
          rintro e wx ⟨⟨y, rfl, y0, y9⟩, hl⟩
          have O9 := Lib.hid (O2.out.left hl)
          clear hl O2
          have yw : IntKind.i64.wrap (y - 3) = y - 3 := IntWalk.i64_in _ (by omega)
          go_upto_region 12 with fail
          obtain ⟨wE, hwE⟩ : ∃ wE, wE = wx.alloc (.cells #[.int .i64 ax, .int .i64 (y - 3)] 3) := ⟨_, rfl⟩
          obtain ⟨bE, hbE⟩ : ∃ bE, bE = wx.heap.size := ⟨_, rfl⟩
          have PE := Lib.hid (show wE.heap[bE]? = some (.cells #[.int .i64 ax, .int .i64 (y - 3)] 3 (0, 0)) by rw [hwE, hbE]; exact heap_alloc_new wx _)
          have O4 := Lib.hid (O9.out.below (show Below wx.heap.size wx wE by rw [hwE]; exact new_block _))
          rw [← hwE, ← hbE]
          clear hwE hbE O9 yw
          have KE : Hid (∀ wz, Below wE.heap.size wE wz → ∀ j : Nat, j < 2 → ∃ kk : Int, wz.cell? ⟨bE, j, none⟩ = some (.int .i64 kk) ∧ -9223372036854775808 ≤ kk ∧ kk ≤ 9223372036854775807) := Lib.hid fun wz hb j hj => by
            have h : wz.cell? ⟨bE, j, none⟩ = wE.cell? ⟨bE, j, none⟩ := World.cell?_of_block (a := ⟨bE, j, none⟩) (hb.block bE (Array.getElem?_eq_some_iff.1 PE.out).1)
            rw [h, cell_of_row wE bE j _ _ _ PE.out]
            rcases (show j = 0 ∨ j = 1 by omega) with rfl | rfl
            all_goals exact ⟨_, rfl, by omega, by omega⟩
          clear PE
          have IP := Lib.hid (PQ.out _ O4.out).1
          have lP := IP.out.len
          have B0 := Lib.hid (Below.refl wE.heap.size wE)
          go_loopw [115] (fun i wr => ∃ j : Nat, j ≤ 2 ∧ i = .int .i64 j ∧ Hid (Below wE.heap.size wE wr)) (fun i _ => (2 - intOf i).toNat)
          case atStart => exact ⟨0, by omega, rfl, B0⟩
          case round =>
            clear B0
            obtain ⟨j, hj, rfl, BC⟩ := hrel
            by_cases hjk : j < 2
            · obtain ⟨kk, ck, kk0, kk9⟩ := KE.out _ BC.out j hjk
              have bj : (j : Int) < 2 := by omega
              go_wp2_with fail
              refine (has_anyw kk (IP.out.its.keep BC.out) (by omega)).mono ?_
              rintro e wx ⟨rfl, hA⟩
              replace BC := Lib.hid (Buf.then_ BC.out hA)
              clear hA ck
              go_wp2_with fail
              refine (refhas_anyw kk (IP.out.its.keep BC.out) (by omega)).mono ?_
              rintro e wx ⟨rfl, hA⟩
              replace BC := Lib.hid (Buf.then_ BC.out hA)
              clear hA
              go_wp2_with fail
              refine (cut_anyw kk an (IP.out.its.keep BC.out) (by omega)).mono ?_
              rintro e wx ⟨⟨rA, NA, rfl, OA, IA, lA⟩, hA⟩
              obtain ⟨sA, cA, rfl⟩ := own_len OA
              replace BC := Lib.hid (Buf.then_ BC.out hA)
              clear hA
              go_wp2_with fail
              refine (refcut_genw kk an (IP.out.its.keep BC.out) (by omega)).mono ?_
              rintro e wy ⟨⟨rB, NB, rfl, OB, IB, lB⟩, hB⟩
              obtain ⟨sB, cB, rfl⟩ := own_len OB
              obtain rfl := Is.unique IA IB
              have SY := Lib.hid (same_yes (its_of_own (own_below OA hB)) (its_of_own OB) (by omega))
              replace BC := Lib.hid (Buf.then_ BC.out hB)
              clear OA OB IA IB hB lA lB
              go_wp2_with fail
              refine SY.out.mono ?_
              rintro e wz ⟨rfl, hC⟩
              replace BC := Lib.hid (Buf.then_ BC.out hC)
              clear hC SY
              go_wp2_with fail
              refine (cut_anyw 5 kk (IP.out.its.keep BC.out) (by omega)).mono ?_
              rintro e wx ⟨⟨rA, NA, rfl, OA, IA, lA⟩, hA⟩
              obtain ⟨sA, cA, rfl⟩ := own_len OA
              replace BC := Lib.hid (Buf.then_ BC.out hA)
              clear hA
              go_wp2_with fail
              refine (refcut_genw 5 kk (IP.out.its.keep BC.out) (by omega)).mono ?_
              rintro e wy ⟨⟨rB, NB, rfl, OB, IB, lB⟩, hB⟩
              obtain ⟨sB, cB, rfl⟩ := own_len OB
              obtain rfl := Is.unique IA IB
              have SY := Lib.hid (same_yes (its_of_own (own_below OA hB)) (its_of_own OB) (by omega))
              replace BC := Lib.hid (Buf.then_ BC.out hB)
              clear OA OB IA IB hB lA lB
              go_wp2_with fail
              refine SY.out.mono ?_
              rintro e wz ⟨rfl, hC⟩
              replace BC := Lib.hid (Buf.then_ BC.out hC)
              clear hC SY
              go_wp2_with fail
              go_roundw
              case rel => exact ⟨j + 1, by omega, by go_num, BC⟩
              case measure => simp [intOf]; omega
            · obtain rfl : j = 2 := by omega
              have OX := Lib.hid (O4.out.below BC.out)
              clear O4 KE IP BC hjk hj lP
              go_wp2_with fail
              refine (next_any 20 OX.out.di (by omega) (by omega)).mono ?_
              rintro e wx ⟨⟨y, rfl, y0, y9⟩, hl⟩
              have O9 := Lib.hid (OX.out.left hl)
              clear hl OX
              have yw : IntKind.i64.wrap (y - 2) = y - 2 := IntWalk.i64_in _ (by omega)
              go_upto_region 18 with fail
              obtain ⟨wE, hwE⟩ : ∃ wE, wE = wx.alloc (.cells #[.int .i64 an, .int .i64 (y - 2)] 3) := ⟨_, rfl⟩
              obtain ⟨bE, hbE⟩ : ∃ bE, bE = wx.heap.size := ⟨_, rfl⟩
              have PE := Lib.hid (show wE.heap[bE]? = some (.cells #[.int .i64 an, .int .i64 (y - 2)] 3 (0, 0)) by rw [hwE, hbE]; exact heap_alloc_new wx _)
              have O5 := Lib.hid (O9.out.below (show Below wx.heap.size wx wE by rw [hwE]; exact new_block _))
              rw [← hwE, ← hbE]
              clear hwE hbE O9 yw
              have KE : Hid (∀ wz, Below wE.heap.size wE wz → ∀ j : Nat, j < 2 → ∃ kk : Int, wz.cell? ⟨bE, j, none⟩ = some (.int .i64 kk) ∧ -9223372036854775808 ≤ kk ∧ kk ≤ 9223372036854775807) := Lib.hid fun wz hb j hj => by
                have h : wz.cell? ⟨bE, j, none⟩ = wE.cell? ⟨bE, j, none⟩ := World.cell?_of_block (a := ⟨bE, j, none⟩) (hb.block bE (Array.getElem?_eq_some_iff.1 PE.out).1)
                rw [h, cell_of_row wE bE j _ _ _ PE.out]
                rcases (show j = 0 ∨ j = 1 by omega) with rfl | rfl
                all_goals exact ⟨_, rfl, by omega, by omega⟩
              clear PE
              have IP := Lib.hid (PQ.out _ O5.out).1
              have lP := IP.out.len
              have B0 := Lib.hid (Below.refl wE.heap.size wE)
              go_loopw [155] (fun i wr => ∃ j : Nat, j ≤ 2 ∧ i = .int .i64 j ∧ Hid (Below wE.heap.size wE wr)) (fun i _ => (2 - intOf i).toNat)
              case atStart => exact ⟨0, by omega, rfl, B0⟩
              case round =>
                clear B0
                obtain ⟨j, hj, rfl, BC⟩ := hrel
                by_cases hjk : j < 2
                · obtain ⟨kk, ck, kk0, kk9⟩ := KE.out _ BC.out j hjk
                  have bj : (j : Int) < 2 := by omega
                  go_wp2_with fail
                  refine (first_genw kk (IP.out.its.keep BC.out) IP.out.bd (by omega) kk0 kk9).mono ?_
                  rintro e wx ⟨⟨rA, NA, IA, lA, rfl, OA⟩, hA⟩
                  obtain ⟨sA, cA, rfl⟩ := own_len OA
                  replace BC := Lib.hid (Buf.then_ BC.out hA)
                  clear hA ck
                  go_wp2_with fail
                  refine (reffirst_genw kk (IP.out.its.keep BC.out) IP.out.bd (by omega) kk0 kk9).mono ?_
                  rintro e wy ⟨⟨rB, NB, IB, lB, rfl, OB⟩, hB⟩
                  obtain ⟨sB, cB, rfl⟩ := own_len OB
                  obtain rfl := Is.unique IA IB
                  have fl := firstL_len NA kk
                  have SY := Lib.hid (same_yes (its_of_own (own_below OA hB)) (its_of_own OB) (by omega))
                  replace BC := Lib.hid (Buf.then_ BC.out hB)
                  clear OA OB IA IB hB lA lB fl
                  go_wp2_with fail
                  refine SY.out.mono ?_
                  rintro e wz ⟨rfl, hC⟩
                  replace BC := Lib.hid (Buf.then_ BC.out hC)
                  clear hC SY
                  go_wp2_with fail
                  go_roundw
                  case rel => exact ⟨j + 1, by omega, by go_num, BC⟩
                  case measure => simp [intOf]; omega
                · obtain rfl : j = 2 := by omega
                  have OX := Lib.hid (O5.out.below BC.out)
                  clear O5 KE IP BC hjk hj lP
                  go_wp2_with fail
                  refine (next_any 9 OX.out.di (by omega) (by omega)).mono ?_
                  rintro e wx ⟨⟨y, rfl, y0, y9⟩, hl⟩
                  have O9 := Lib.hid (OX.out.left hl)
                  clear hl OX
                  have yw : IntKind.i64.wrap (y - 4) = y - 4 := IntWalk.i64_in _ (by omega)
                  go_upto_region 24 with fail
                  obtain ⟨wE, hwE⟩ : ∃ wE, wE = wx.alloc (.cells #[.int .i64 ab, .int .i64 (y - 4), .int .i64 1152921504606846976, .int .i64 1152921504606846977] 3) := ⟨_, rfl⟩
                  obtain ⟨bE, hbE⟩ : ∃ bE, bE = wx.heap.size := ⟨_, rfl⟩
                  have PE := Lib.hid (show wE.heap[bE]? = some (.cells #[.int .i64 ab, .int .i64 (y - 4), .int .i64 1152921504606846976, .int .i64 1152921504606846977] 3 (0, 0)) by rw [hwE, hbE]; exact heap_alloc_new wx _)
                  have O6 := Lib.hid (O9.out.below (show Below wx.heap.size wx wE by rw [hwE]; exact new_block _))
                  rw [← hwE, ← hbE]
                  clear hwE hbE O9 yw
                  have KE : Hid (∀ wz, Below wE.heap.size wE wz → ∀ j : Nat, j < 4 → ∃ kk : Int, wz.cell? ⟨bE, j, none⟩ = some (.int .i64 kk) ∧ -9223372036854775808 ≤ kk ∧ kk ≤ 9223372036854775807) := Lib.hid fun wz hb j hj => by
                    have h : wz.cell? ⟨bE, j, none⟩ = wE.cell? ⟨bE, j, none⟩ := World.cell?_of_block (a := ⟨bE, j, none⟩) (hb.block bE (Array.getElem?_eq_some_iff.1 PE.out).1)
                    rw [h, cell_of_row wE bE j _ _ _ PE.out]
                    rcases (show j = 0 ∨ j = 1 ∨ j = 2 ∨ j = 3 by omega) with rfl | rfl | rfl | rfl
                    all_goals exact ⟨_, rfl, by omega, by omega⟩
                  clear PE
                  have IP := Lib.hid (PQ.out _ O6.out).1
                  have lP := IP.out.len
                  have B0 := Lib.hid (Below.refl wE.heap.size wE)
                  go_loopw [174] (fun i wr => ∃ j : Nat, j ≤ 4 ∧ i = .int .i64 j ∧ Hid (Below wE.heap.size wE wr)) (fun i _ => (4 - intOf i).toNat)
                  case atStart => exact ⟨0, by omega, rfl, B0⟩
                  case round =>
                    clear B0
                    obtain ⟨j, hj, rfl, BC⟩ := hrel
                    by_cases hjk : j < 4
                    · obtain ⟨kk, ck, kk0, kk9⟩ := KE.out _ BC.out j hjk
                      have bj : (j : Int) < 4 := by omega
                      by_cases hn : Near N0 ∧ -1152921504606846976 ≤ kk ∧ kk ≤ 1152921504606846976
                      · go_wp2_with fail
                        refine (shift_nearw kk (IP.out.its.keep BC.out) IN0.out.1 hn.1 (by omega) hn.2.1 hn.2.2).mono ?_
                        rintro e wx ⟨⟨rA, NA, IA, lA, rfl, OA⟩, hA⟩
                        obtain rfl := Is.unique IN0.out.1 IA
                        obtain ⟨sA, cA, rfl⟩ := own_len OA
                        replace BC := Lib.hid (Buf.then_ BC.out hA)
                        clear hA ck
                        go_wp2_with fail
                        refine (refshift_genw kk (IP.out.its.keep BC.out) IN0.out.1 hn.1 hn.2.1 hn.2.2 (by omega)).mono ?_
                        rintro e wy ⟨⟨rB, rfl, OB⟩, hB⟩
                        obtain ⟨sB, cB, rfl⟩ := own_len OB
                        have SY := Lib.hid (same_yes (its_of_own (own_below OA hB)) (its_of_own OB) (by rw [moveL_length]; have := IN0.out.2; omega))
                        replace BC := Lib.hid (Buf.then_ BC.out hB)
                        clear OA OB hB lA IA hn
                        go_wp2_with fail
                        refine SY.out.mono ?_
                        rintro e wz ⟨rfl, hC⟩
                        replace BC := Lib.hid (Buf.then_ BC.out hC)
                        clear hC SY
                        go_wp2_with fail
                        go_roundw
                        case rel => exact ⟨j + 1, by omega, by go_num, BC⟩
                        case measure => simp [intOf]; omega
                      · have hs1 : ¬ Near N0 ∨ kk < -1152921504606846976 ∨ 1152921504606846976 < kk := by
                          by_cases a : Near N0
                          · by_cases b : kk < -1152921504606846976
                            · exact .inr (.inl b)
                            · exact .inr (.inr (by by_cases c : 1152921504606846976 < kk; exact c; exact absurd ⟨a, by omega, by omega⟩ hn))
                          · exact .inl a
                        have hs2 : ¬ Near N0 ∨ ¬ (-1152921504606846976 ≤ kk ∧ kk ≤ 1152921504606846976) := by
                          by_cases a : Near N0
                          · exact .inr (fun b => hn ⟨a, b⟩)
                          · exact .inl a
                        have QA := Lib.hid fun wz (hb : Below wE.heap.size wE wz) => shift_now kk (IP.out.its.keep hb) IN0.out.1 hs1 (by omega)
                        have QB := Lib.hid fun wz (hb : Below wE.heap.size wE wz) => refshift_now kk (IP.out.its.keep hb) IN0.out.1 hs2 (by omega)
                        clear hs1 hs2 hn
                        go_wp2_with fail
                        refine (QA.out _ BC.out).mono ?_
                        rintro e wx ⟨rfl, hA⟩
                        replace BC := Lib.hid (Buf.then_ BC.out hA)
                        clear hA ck
                        go_wp2_with fail
                        refine (QB.out _ BC.out).mono ?_
                        rintro e wx ⟨rfl, hA⟩
                        replace BC := Lib.hid (Buf.then_ BC.out hA)
                        clear hA QA QB
                        have SY := Lib.hid fun wz => same_yes (w := wz) (va := .slice none 0 0) (vb := .slice none 0 0) (L := []) (.inl ⟨rfl, rfl⟩) (.inl ⟨rfl, rfl⟩) (by simp)
                        go_wp2_with fail
                        refine (SY.out _).mono ?_
                        rintro e wz ⟨rfl, hC⟩
                        replace BC := Lib.hid (Buf.then_ BC.out hC)
                        clear hC SY
                        go_wp2_with fail
                        go_roundw
                        case rel => exact ⟨j + 1, by omega, by go_num, BC⟩
                        case measure => simp [intOf]; omega
                    · obtain rfl : j = 4 := by omega
                      have OX := Lib.hid (O6.out.below BC.out)
                      clear O6 KE IP BC hjk hj lP
                      obtain ⟨wr2, hwr2⟩ : ∃ z, z = wr := ⟨_, rfl⟩
                      subst hwr2
                      have IP := Lib.hid (PQ.out _ OX.out).1
                      have lP := IP.out.len
                      by_cases hn : Near N0
                      · have BC := Lib.hid (Below.refl wr2.heap.size wr2)
                        go_wp2_with fail
                        refine (length_nearw (IP.out.its.keep BC.out) IN0.out.1 hn (by omega)).mono ?_
                        rintro e wx ⟨⟨NA, IA, rfl⟩, hA⟩
                        obtain rfl := Is.unique IN0.out.1 IA
                        replace BC := Lib.hid (Buf.then_ BC.out hA)
                        clear hA IA
                        go_wp2_with fail
                        refine (reflength_genw (IP.out.its.keep BC.out) IN0.out.1 hn (by omega)).mono ?_
                        rintro e wx ⟨rfl, hA⟩
                        replace BC := Lib.hid (Buf.then_ BC.out hA)
                        clear hA
                        go_wp2_with fail
                        go_roundw
                        case rel => exact ⟨jo + 1, by omega, by go_num, Lib.hid (OX.out.below BC.out)⟩
                        case measure => simp [intOf]; omega
                      · have BC := Lib.hid (Below.refl wr2.heap.size wr2)
                        go_wp2_with fail
                        refine (length_now (IP.out.its.keep BC.out) IN0.out.1 hn (by omega)).mono ?_
                        rintro e wx ⟨rfl, hA⟩
                        replace BC := Lib.hid (Buf.then_ BC.out hA)
                        clear hA
                        go_wp2_with fail
                        refine (reflength_now (IP.out.its.keep BC.out) IN0.out.1 hn (by omega)).mono ?_
                        rintro e wx ⟨rfl, hA⟩
                        replace BC := Lib.hid (Buf.then_ BC.out hA)
                        clear hA
                        go_wp2_with fail
                        go_roundw
                        case rel => exact ⟨jo + 1, by omega, by go_num, Lib.hid (OX.out.below BC.out)⟩
                        case measure => simp [intOf]; omega
        · obtain rfl : jo = 3 := by omega
          go_wp2_with (go_at_call 12; refine (SN.out _).mono ?_; rintro e wz ⟨rfl, hb⟩)
          go_ret
          exact ⟨rfl, Buf.then_ O.out.di.bel hb⟩
    · have hd2 : decide ((30 : Int) < (rl : Int)) = true := decide_eq_true (by omega)
      go_enter Try.func3, Try.ntmps3
      go_wp2_with (first | (go_at_call 11; refine (light_any _ _ _ _).mono ?_; rintro e w1 ⟨rfl, rfl⟩; rw [hd]) | (go_at_call 12; refine (SN.out _).mono ?_; rintro e wz ⟨rfl, hb⟩))
      go_ret
      exact ⟨rfl, hb⟩
  · have hd : decide ((len0 : Int) ≤ 500) = false := by simp; omega
    go_enter Try.func3, Try.ntmps3
    go_wp2_with (first | (go_at_call 11; refine (light_any _ _ _ _).mono ?_; rintro e w1 ⟨rfl, rfl⟩; rw [hd]) | (go_at_call 12; refine (SN.out _).mono ?_; rintro e wz ⟨rfl, hb⟩))
    go_ret
    exact ⟨rfl, hb⟩
end Laws
end Go.Proofs.Ytfmhfhggogjbkaa
