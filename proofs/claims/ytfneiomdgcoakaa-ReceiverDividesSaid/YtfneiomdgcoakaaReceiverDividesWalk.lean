/- The walk of ReceiverDivides. -/
import Derived.Test.YtfneiomdgcoakaaRfV
import Derived.Lib.MinMax
set_option linter.unusedVariables false
set_option linter.unusedSimpArgs false
namespace Go.Proofs.Ytfneiomdgcoakaa
open Go.RowKit Dice Wi
namespace Laws
open Rcv Spn
/-- How many of the first j of three sets have a number. -/
def cnj (a b c : Bool) : Nat → Int
  | 0 => 0
  | 1 => (if a then 1 else 0)
  | 2 => (if a then 1 else 0) + (if b then 1 else 0)
  | _ => cn3 a b c
theorem cnj_bd (a b c : Bool) (j : Nat) : 0 ≤ cnj a b c j ∧ cnj a b c j ≤ 3 := by
  rcases j with _ | _ | _ | j <;> cases a <;> cases b <;> cases c <;> simp [cnj, cn3]
theorem cnj_step (a b c x : Bool) (j : Nat) (hj : j < 3) (hx : x = (if j = 0 then a else if j = 1 then b else c)) : cnj a b c (j + 1) = (if x then cnj a b c j + 1 else cnj a b c j) := by
  subst hx
  rcases j with _ | _ | _ | j <;> cases a <;> cases b <;> cases c <;> simp [cnj, cn3] <;> omega
set_option tactic.hygienic false in
set_option maxHeartbeats 16000000 in
set_option maxRecDepth 100000 in
theorem receiverDivides_walk (a0 : Option Addr) (len0 cap0 : Nat) (z0 : List Int) (a1 : Int) (w : World) (w0 : Buf.IsRow .i64 w a0 len0 cap0 z0) (w1 : (Lit.int .u8 a1).wf = true) :
    Calls Try.prog 5 #[.slice a0 len0 cap0, .int .u8 a1] w fun e w' => e = .returned (.bool true) ∧ Below w.heap.size w w' := by
  have SN := Lib.hid Rcv.sane_any
  obtain ⟨b0, b1⟩ : 0 ≤ a1 ∧ a1 ≤ 255 := Ma.wf_u8 w1
  by_cases hs : len0 ≤ 500
  · have hd : decide ((len0 : Int) ≤ 500) = true := by simp; omega
    go_enter Try.func5, Try.ntmps5
    go_upto_region 3 with (go_at_call 9; refine (light_any _ _ _ _).mono ?_; rintro e w1 ⟨rfl, hw⟩; replace hw := hw.symm; subst hw; rw [hd])
    go_wp2_with fail
    refine (roll_any a0 len0 cap0 z0 _ w0 hs).mono ?_
    rintro e w2 ⟨rfl, hdi⟩
    go_wp2_with fail
    refine (receiver_any hdi).mono ?_
    rintro e w3 ⟨⟨vg, vl, f, g, rfl, RR⟩, hl⟩
    obtain ⟨x1, n1, c1, x2, n2, c2, rfl, rfl⟩ := Rc.form RR
    have N5 := Lib.hid (heap_alloc_new w3 (.cells #[.slice none 0 0, .slice none 0 0] 30))
    go_upto_region 4 with (first | ((with_reducible refine Mid.str 30 (.tmp 5) (.tmp 21) w3.heap.size 30 #[.slice none 0 0, .slice none 0 0] #[.slice x1 n1 c1, .slice x2 n2 c2] N5.out ?_ ?_ ?_ ?_ ?_ ?_ ?_ ?_); (· rfl); (· rfl); (· first | rfl | simp [Act.eval]); (· first | rfl | simp [Act.eval]); (· kernel_rfl); (· rfl); (· simp [Value.oneCell'])) | fail)
    obtain ⟨b5, hb5⟩ : ∃ b5, b5 = w3.heap.size := ⟨_, rfl⟩
    obtain ⟨w4, hw4⟩ : ∃ w4, w4 = (w3.alloc (.cells #[.slice none 0 0, .slice none 0 0] 30)).setRow w3.heap.size #[.slice x1 n1 c1, .slice x2 n2 c2] := ⟨_, rfl⟩
    have P5 := Lib.hid (show w4.heap[b5]? = some (.cells #[.slice x1 n1 c1, .slice x2 n2 c2] 30 (0, 0)) by rw [hw4, hb5]; exact setRow_heap _ _ _ _ _ _ N5.out)
    have BL := Lib.hid (show Below w.heap.size w w4 by rw [hw4]; exact Mid.below_row (Buf.then_ hl.di.bel (new_block _)) _ _ hl.di.bel.size)
    have RC := Lib.hid (show Rc w4 (.slice x1 n1 c1) (.slice x2 n2 c2) f g by rw [hw4]; exact (RR.keep (new_block _)).set N5.out _ _ _ _ _ _)
    rw [← hw4, ← hb5]
    clear hw4 hb5 N5 RR hl hdi
    have PK := Lib.hid fun wx (hb : Below w4.heap.size w4 wx) => Spn.c2 (hop hb P5.out)
    obtain ⟨k0, k1⟩ := Spn.c2 P5.out
    have q0 : 0 ≤ a1 % 20 := by omega
    have q9 : a1 % 20 < 20 := by omega
    go_wp2_with fail
    refine (missing_any RC.out (a1 % 20) (by omega) (by omega)).mono ?_
    rintro e w5 ⟨⟨v, t, he, hT, hS⟩, hb⟩
    subst he
    obtain ⟨va, vn, vc, rfl, _⟩ := Sv.form hS
    have B5 := Lib.hid hb
    have HT := Lib.hid hT
    have HS := Lib.hid (show Sv w5 (.slice va vn vc) (misF f g t) 32 from hS)
    clear hb hT hS k0 k1
    obtain ⟨k0, k1⟩ := PK.out _ B5.out
    go_wp2_with fail
    refine (high_any (RC.out.keep B5.out)).mono ?_
    rintro e w6 ⟨⟨hh, rfl, hH⟩, hb⟩
    have HH := Lib.hid hH
    have hmx := high_top HT.out hH (by omega) (by omega)
    have t0 : 0 ≤ t := HT.out.2.1
    have t9 : t ≤ 64 := HT.out.2.2.1
    have B6 := Lib.hid (Buf.then_ B5.out hb)
    have S6 := Lib.hid (HS.out.keep hb)
    clear hb hH k0 k1 B5 HS
    go_upto_region 8 with fail
    replace hmx := Lib.hid hmx
    have F0 := Lib.hid (Fst.start f g t)
    have B0 := Lib.hid (Below.refl w6.heap.size w6)
    obtain ⟨w6', hw6⟩ : ∃ z, z = w6 := ⟨_, rfl⟩
    go_wp2_with fail
    go_loopw [10, 11] (fun r i wr => ∃ (k : Nat) (rr : Int), (k : Int) ≤ t + 2 ∧ i = .int .i64 k ∧ r = .int .i64 rr ∧ 0 ≤ rr ∧ rr ≤ 64 ∧ Hid (Fst f g t k rr) ∧ Hid (Below w6.heap.size w6 wr)) (fun _ i _ => (66 - intOf i).toNat)
    case atStart => exact ⟨0, t, by omega, rfl, rfl, t0, t9, F0, B0⟩
    case round =>
      clear F0 B0
      obtain ⟨k, rr, hk, rfl, rfl, r0, r9, HF, HB⟩ := hrel
      by_cases hlt : (k : Int) < t + 2
      · obtain ⟨k0, k1⟩ := PK.out _ (Buf.then_ B6.out HB.out)
        have CN := cn3_in HT.out RC.out.apart (Int.natCast_nonneg k)
        go_upto_region 12 with fail
        obtain ⟨wA, hwA⟩ : ∃ wA, wA = wr.alloc (.cells #[.slice x1 n1 c1, .slice x2 n2 c2, .slice va vn vc] 28) := ⟨_, rfl⟩
        obtain ⟨bA, hbA⟩ : ∃ bA, bA = wr.heap.size := ⟨_, rfl⟩
        have PA := Lib.hid (show wA.heap[bA]? = some (.cells #[.slice x1 n1 c1, .slice x2 n2 c2, .slice va vn vc] 28 (0, 0)) by rw [hwA, hbA]; exact heap_alloc_new wr _)
        have BA := Lib.hid (show Below wr.heap.size wr wA by rw [hwA]; exact new_block _)
        go_upto_region 13 with fail
        rw [← hwA, ← hbA]
        clear hwA hbA
        have KC0 := Lib.hid fun wx (hb : Below wA.heap.size wA wx) => (World.cell?_of_block (a := ⟨bA, 0, none⟩) (hb.block bA (Array.getElem?_eq_some_iff.1 PA.out).1)).trans (cell_of_row wA bA 0 _ _ _ PA.out)
        have KC1 := Lib.hid fun wx (hb : Below wA.heap.size wA wx) => (World.cell?_of_block (a := ⟨bA, 1, none⟩) (hb.block bA (Array.getElem?_eq_some_iff.1 PA.out).1)).trans (cell_of_row wA bA 1 _ _ _ PA.out)
        have KC2 := Lib.hid fun wx (hb : Below wA.heap.size wA wx) => (World.cell?_of_block (a := ⟨bA, 2, none⟩) (hb.block bA (Array.getElem?_eq_some_iff.1 PA.out).1)).trans (cell_of_row wA bA 2 _ _ _ PA.out)
        replace HB := Lib.hid (Buf.then_ HB.out BA.out)
        clear BA PA k0 k1
        have BI0 := Lib.hid (Below.refl wA.heap.size wA)
        go_loopw [12, 49] (fun c i wr => ∃ j : Nat, j ≤ 3 ∧ i = .int .i64 j ∧ c = .int .i64 (cnj (f (k : Int)) (g (k : Int)) (misF f g t (k : Int)) j) ∧ Hid (Below wA.heap.size wA wr)) (fun _ i _ => (3 - intOf i).toNat)
        case atStart => exact ⟨0, by omega, rfl, rfl, BI0⟩
        case round =>
          clear BI0
          obtain ⟨j, hj, rfl, rfl, BI⟩ := hrel
          obtain ⟨c, hc'⟩ : ∃ c, c = cnj (f (k : Int)) (g (k : Int)) (misF f g t (k : Int)) j := ⟨_, rfl⟩
          have cbd := cnj_bd (f (k : Int)) (g (k : Int)) (misF f g t (k : Int)) j
          rw [← hc'] at cbd ⊢
          obtain ⟨cb0, cb3⟩ := cbd
          have hc := Lib.hid hc'
          clear hc'
          rcases (show j = 0 ∨ j = 1 ∨ j = 2 ∨ j = 3 by omega) with rfl | rfl | rfl | rfl
          · have cc := KC0.out _ BI.out
            go_wp2_with fail
            refine (refhas_sv (k : Int) (Spn.Sv.rv (RC.out.keep (Buf.then_ B6.out (Buf.then_ HB.out BI.out))).got) (by omega)).mono ?_
            rintro e w8 ⟨rfl, hb⟩
            replace BI := Lib.hid (Buf.then_ BI.out hb)
            clear hb cc
            cases hf : f (k : Int) with
            | true =>
              replace hf := Lib.hid hf
              go_wp2_with fail
              go_roundw
              case rel => exact ⟨1, by omega, rfl, by rw [hc.out]; simp [cnj, cn3, hf.out] <;> omega, BI⟩
              case measure => simp [intOf]
            | false =>
              replace hf := Lib.hid hf
              go_wp2_with fail
              go_roundw
              case rel => exact ⟨1, by omega, rfl, by rw [hc.out]; simp [cnj, cn3, hf.out], BI⟩
              case measure => simp [intOf]
          · have cc := KC1.out _ BI.out
            go_wp2_with fail
            refine (refhas_sv (k : Int) (Spn.Sv.rv (RC.out.keep (Buf.then_ B6.out (Buf.then_ HB.out BI.out))).lost) (by omega)).mono ?_
            rintro e w8 ⟨rfl, hb⟩
            replace BI := Lib.hid (Buf.then_ BI.out hb)
            clear hb cc
            cases hf : g (k : Int) with
            | true =>
              replace hf := Lib.hid hf
              go_wp2_with fail
              go_roundw
              case rel => exact ⟨2, by omega, rfl, by rw [hc.out]; simp [cnj, cn3, hf.out] <;> omega, BI⟩
              case measure => simp [intOf]
            | false =>
              replace hf := Lib.hid hf
              go_wp2_with fail
              go_roundw
              case rel => exact ⟨2, by omega, rfl, by rw [hc.out]; simp [cnj, cn3, hf.out], BI⟩
              case measure => simp [intOf]
          · have cc := KC2.out _ BI.out
            go_wp2_with fail
            refine (refhas_sv (k : Int) (Spn.Sv.rv (S6.out.keep (Buf.then_ HB.out BI.out))) (by omega)).mono ?_
            rintro e w8 ⟨rfl, hb⟩
            replace BI := Lib.hid (Buf.then_ BI.out hb)
            clear hb cc
            cases hf : misF f g t (k : Int) with
            | true =>
              replace hf := Lib.hid hf
              go_wp2_with fail
              go_roundw
              case rel => exact ⟨3, by omega, rfl, by rw [hc.out]; simp [cnj, cn3, hf.out] <;> omega, BI⟩
              case measure => simp [intOf]
            | false =>
              replace hf := Lib.hid hf
              go_wp2_with fail
              go_roundw
              case rel => exact ⟨3, by omega, rfl, by rw [hc.out]; simp [cnj, cn3, hf.out], BI⟩
              case measure => simp [intOf]
          · have c3 : c = cn3 (f (k : Int)) (g (k : Int)) (misF f g t (k : Int)) := hc.out
            have HB2 := Lib.hid (Buf.then_ HB.out BI.out)
            clear HB BI KC0 KC1 KC2
            by_cases kt : (k : Int) < t
            · obtain rfl : c = 1 := c3.trans (CN.1 kt)
              have d1 : decide ((k : Int) < t) = true := by simp; omega
              have d2 : decide (t ≤ (k : Int)) = false := by simp; omega
              clear hc c3 CN kt hj cb0 cb3
              go_wp2_with fail
              refine (refhas_sv (k : Int) (Spn.Sv.rv (S6.out.keep HB2.out)) (by omega)).mono ?_
              rintro e w9 ⟨rfl, hb⟩
              replace HB2 := Lib.hid (Buf.then_ HB2.out hb)
              clear hb
              cases hm : misF f g t (k : Int) with
              | true =>
                have FN := Lib.hid (HF.out.yes hm)
                replace hm := Lib.hid hm
                go_wp2_with fail
                go_roundw
                case rel => exact ⟨k + 1, min rr (k : Int), by omega, by go_num, rfl, by omega, by omega, FN, HB2⟩
                case measure => simp [intOf]; omega
              | false =>
                have FN := Lib.hid (HF.out.no hm)
                replace hm := Lib.hid hm
                go_wp2_with fail
                go_roundw
                case rel => exact ⟨k + 1, rr, by omega, by go_num, rfl, r0, r9, FN, HB2⟩
                case measure => simp [intOf]; omega
            · obtain rfl : c = 0 := c3.trans (CN.2 (by omega))
              have d1 : decide ((k : Int) < t) = false := by simp; omega
              have d2 : decide (t ≤ (k : Int)) = true := by simp; omega
              clear hc c3 CN kt hj cb0 cb3
              go_wp2_with fail
              refine (refhas_sv (k : Int) (Spn.Sv.rv (S6.out.keep HB2.out)) (by omega)).mono ?_
              rintro e w9 ⟨rfl, hb⟩
              replace HB2 := Lib.hid (Buf.then_ HB2.out hb)
              clear hb
              cases hm : misF f g t (k : Int) with
              | true =>
                have FN := Lib.hid (HF.out.yes hm)
                replace hm := Lib.hid hm
                go_wp2_with fail
                go_roundw
                case rel => exact ⟨k + 1, min rr (k : Int), by omega, by go_num, rfl, by omega, by omega, FN, HB2⟩
                case measure => simp [intOf]; omega
              | false =>
                have FN := Lib.hid (HF.out.no hm)
                replace hm := Lib.hid hm
                go_wp2_with fail
                go_roundw
                case rel => exact ⟨k + 1, rr, by omega, by go_num, rfl, r0, r9, FN, HB2⟩
                case measure => simp [intOf]; omega
      · have hk2 : (k : Int) = t + 2 := by omega
        have dlt : decide ((k : Int) < t + 2) = false := decide_eq_false hlt
        clear hlt hk
        replace hk2 := Lib.hid hk2
        go_upto_region 22 with fail
        have hw0 : Below wr.heap.size wr wr.drew := (Below.refl _ _).drew
        refine wp_region_noPanic ?_
        refine wp_region_any (by kernel_rfl) ?_
        refine Inv.wpAny_inv (fun k => false) [81, 82, 83, 84, 85, 86, 87, 88, 89, 90, 91, 92, 93, 94, 4] (fun w' => Below wr.heap.size wr w') (fun _ w1 w2 => Below w1.heap.size w1 w2) (fun k => ([fun v_ w_ => v_ = .int .i64 0, fun v_ w_ => v_ = .bool true, fun v_ w_ => v_ = .bool true, fun v_ w_ => v_ = .agg #[.slice x1 n1 c1, .slice x2 n2 c2], fun v_ w_ => ∃ s : Int, v_ = .int .i64 s ∧ SetP f g s, fun v_ w_ => v_ = .int .i64 rr, fun v_ w_ => v_ = .agg #[.slice x1 n1 c1, .slice x2 n2 c2], fun v_ w_ => ∃ h : Int, v_ = .int .i64 h ∧ HighP f g h, fun v_ w_ => ∃ h : Int, v_ = .int .i64 (min rr h) ∧ HighP f g h, fun v_ w_ => v_ = .bool true, fun v_ w_ => v_ = .bool true, fun v_ w_ => v_ = .bool true, fun v_ w_ => v_ = .bool true, fun v_ w_ => v_ = .bool true, fun v_ w_ => v_ = .bool true] : List (Value → World → Prop)).getD k (fun _ _ => True)) _ (fun σ => by simp only [Inv.putAll, List.foldl_cons, List.foldl_nil, Act.put, List.setIfInBounds_toArray, List.set_cons_zero, List.set_cons_succ]; rfl) (by kernel_rfl) (by kernel_rfl) ?_ hw0 ?_ ?_ 0 #[true, true, true, true, true, true, true, true, true, true, true, true, true, true, true] (by kernel_rfl) (by kernel_rfl) ?_
        · intro j k v w1 w2 hjk hv hr
          rcases k with _ | k
          · exact hv
          rcases k with _ | k
          · exact hv
          rcases k with _ | k
          · exact hv
          rcases k with _ | k
          · exact hv
          rcases k with _ | k
          · exact hv
          rcases k with _ | k
          · exact hv
          rcases k with _ | k
          · exact hv
          rcases k with _ | k
          · exact hv
          rcases k with _ | k
          · exact hv
          rcases k with _ | k
          · exact hv
          rcases k with _ | k
          · exact hv
          rcases k with _ | k
          · exact hv
          rcases k with _ | k
          · exact hv
          rcases k with _ | k
          · exact hv
          rcases k with _ | k
          · exact hv
          · exact hv
        · intro k t hl hd
          rcases k with _ | k
          · exact absurd hl (by decide +kernel)
          rcases k with _ | k
          · exact absurd hl (by decide +kernel)
          rcases k with _ | k
          · exact absurd hl (by decide +kernel)
          rcases k with _ | k
          · exact absurd hl (by decide +kernel)
          rcases k with _ | k
          · exact absurd hl (by decide +kernel)
          rcases k with _ | k
          · exact absurd hl (by decide +kernel)
          rcases k with _ | k
          · exact absurd hl (by decide +kernel)
          rcases k with _ | k
          · exact absurd hl (by decide +kernel)
          rcases k with _ | k
          · exact absurd hl (by decide +kernel)
          rcases k with _ | k
          · exact absurd hl (by decide +kernel)
          rcases k with _ | k
          · exact absurd hl (by decide +kernel)
          rcases k with _ | k
          · exact absurd hl (by decide +kernel)
          rcases k with _ | k
          · exact absurd hl (by decide +kernel)
          rcases k with _ | k
          · exact absurd hl (by decide +kernel)
          rcases k with _ | k
          · exact absurd hl (by decide +kernel)
          · simp at hd
        · show Inv.Steps _ _ _ _ _ _ _ _ [0, 1, 2, 3, 4, 5, 6, 7, 8, 9, 10, 11, 12, 13, 14]
          refine Inv.Steps.go (by decide) (by rfl) (fun σ wx hw hd K hK => ?_) ?_
          · simp only [List.getElem_toArray, List.getElem_cons_zero, List.getElem_cons_succ, Act.put, List.setIfInBounds_toArray, List.set_cons_zero, List.set_cons_succ] at hK ⊢
            go_simp
            exact hK.out _ _ hw (Below.refl _ _) (rfl)
          refine Inv.Steps.go (by decide) (by rfl) (fun σ wx hw hd K hK => ?_) ?_
          · obtain e81 : (σ 81) = .int .i64 0 := hd 0 (some 81) (by kernel_rfl) (by rfl)
            simp only [List.getElem_toArray, List.getElem_cons_zero, List.getElem_cons_succ, Act.put, List.setIfInBounds_toArray, List.set_cons_zero, List.set_cons_succ, e81] at hK ⊢
            go_simp
            exact hK.out _ _ hw (Below.refl _ _) (rfl)
          refine Inv.Steps.go (by decide) (by rfl) (fun σ wx hw hd K hK => ?_) ?_
          · obtain e82 : (σ 82) = .bool true := hd 1 (some 82) (by kernel_rfl) (by rfl)
            simp only [List.getElem_toArray, List.getElem_cons_zero, List.getElem_cons_succ, Act.put, List.setIfInBounds_toArray, List.set_cons_zero, List.set_cons_succ, e82] at hK ⊢
            go_simp
            exact hK.out _ _ hw (Below.refl _ _) (rfl)
          refine Inv.Steps.on (by decide) 2 83 true (by rfl) (by rfl) (fun σ wx hw hd => ?_) ?_
          · obtain e83 : (σ 83) = .bool true := hd 2 (some 83) (by kernel_rfl) (by rfl)
            refine ⟨by simp [e83], fun K hK => ?_⟩
            simp only [List.getElem_toArray, List.getElem_cons_zero, List.getElem_cons_succ, Act.put, List.setIfInBounds_toArray, List.set_cons_zero, List.set_cons_succ, e83] at hK ⊢
            have P5x := hop (Buf.then_ (Buf.then_ B6.out HB.out) hw) P5.out
            refine wp_load_row 30 (.tmp 5) rfl b5 rfl 30 #[.slice x1 n1 c1, .slice x2 n2 c2] (0, 0) _ P5x rfl rfl rfl ?_
            simp only [Act.put, List.setIfInBounds_toArray, List.set_cons_zero, List.set_cons_succ]
            exact hK.out _ _ hw (Below.refl _ _) (rfl)
          refine Inv.Steps.on (by decide) 2 83 true (by rfl) (by rfl) (fun σ wx hw hd => ?_) ?_
          · obtain e83 : (σ 83) = .bool true := hd 2 (some 83) (by kernel_rfl) (by rfl)
            obtain e84 : (σ 84) = .agg #[.slice x1 n1 c1, .slice x2 n2 c2] := hd 3 (some 84) (by kernel_rfl) (by rfl)
            refine ⟨by simp [e83], fun K hK => ?_⟩
            simp only [List.getElem_toArray, List.getElem_cons_zero, List.getElem_cons_succ, Act.put, List.setIfInBounds_toArray, List.set_cons_zero, List.set_cons_succ, e83, e84] at hK ⊢
            go_simp
            go_at_call 27
            refine (settled_any (RC.out.keep (Buf.then_ (Buf.then_ B6.out HB.out) hw))).mono ?_
            rintro e w1 ⟨⟨s, rfl, hS⟩, hb⟩
            dsimp only
            exact hK.out _ _ (Buf.then_ hw hb) hb (⟨s, rfl, hS⟩)
          refine Inv.Steps.on (by decide) 2 83 true (by rfl) (by rfl) (fun σ wx hw hd => ?_) ?_
          · obtain e83 : (σ 83) = .bool true := hd 2 (some 83) (by kernel_rfl) (by rfl)
            refine ⟨by simp [e83], fun K hK => ?_⟩
            simp only [List.getElem_toArray, List.getElem_cons_zero, List.getElem_cons_succ, Act.put, List.setIfInBounds_toArray, List.set_cons_zero, List.set_cons_succ, e83] at hK ⊢
            go_simp
            exact hK.out _ _ hw (Below.refl _ _) (rfl)
          refine Inv.Steps.on (by decide) 2 83 true (by rfl) (by rfl) (fun σ wx hw hd => ?_) ?_
          · obtain e83 : (σ 83) = .bool true := hd 2 (some 83) (by kernel_rfl) (by rfl)
            refine ⟨by simp [e83], fun K hK => ?_⟩
            simp only [List.getElem_toArray, List.getElem_cons_zero, List.getElem_cons_succ, Act.put, List.setIfInBounds_toArray, List.set_cons_zero, List.set_cons_succ] at hK ⊢
            have P5x := hop (Buf.then_ (Buf.then_ B6.out HB.out) hw) P5.out
            refine wp_load_row 30 (.tmp 5) rfl b5 rfl 30 #[.slice x1 n1 c1, .slice x2 n2 c2] (0, 0) _ P5x rfl rfl rfl ?_
            simp only [Act.put, List.setIfInBounds_toArray, List.set_cons_zero, List.set_cons_succ]
            exact hK.out _ _ hw (Below.refl _ _) (rfl)
          refine Inv.Steps.on (by decide) 2 83 true (by rfl) (by rfl) (fun σ wx hw hd => ?_) ?_
          · obtain e83 : (σ 83) = .bool true := hd 2 (some 83) (by kernel_rfl) (by rfl)
            obtain e87 : (σ 87) = .agg #[.slice x1 n1 c1, .slice x2 n2 c2] := hd 6 (some 87) (by kernel_rfl) (by rfl)
            refine ⟨by simp [e83], fun K hK => ?_⟩
            simp only [List.getElem_toArray, List.getElem_cons_zero, List.getElem_cons_succ, Act.put, List.setIfInBounds_toArray, List.set_cons_zero, List.set_cons_succ, e83, e87] at hK ⊢
            go_simp
            go_at_call 26
            refine (high_any (RC.out.keep (Buf.then_ (Buf.then_ B6.out HB.out) hw))).mono ?_
            rintro e w1 ⟨⟨h, rfl, hH⟩, hb⟩
            dsimp only
            exact hK.out _ _ (Buf.then_ hw hb) hb (⟨h, rfl, hH⟩)
          refine Inv.Steps.on (by decide) 2 83 true (by rfl) (by rfl) (fun σ wx hw hd => ?_) ?_
          · obtain e83 : (σ 83) = .bool true := hd 2 (some 83) (by kernel_rfl) (by rfl)
            obtain e86 : (σ 86) = .int .i64 rr := hd 5 (some 86) (by kernel_rfl) (by rfl)
            obtain ⟨h, e88, hH⟩ : ∃ h : Int, (σ 88) = .int .i64 h ∧ HighP f g h := hd 7 (some 88) (by kernel_rfl) (by rfl)
            refine ⟨by simp [e83], fun K hK => ?_⟩
            simp only [List.getElem_toArray, List.getElem_cons_zero, List.getElem_cons_succ, Act.put, List.setIfInBounds_toArray, List.set_cons_zero, List.set_cons_succ, e83, e86, e88] at hK ⊢
            go_simp
            exact hK.out _ _ hw (Below.refl _ _) (⟨h, rfl, hH⟩)
          refine Inv.Steps.on (by decide) 2 83 true (by rfl) (by rfl) (fun σ wx hw hd => ?_) ?_
          · obtain e83 : (σ 83) = .bool true := hd 2 (some 83) (by kernel_rfl) (by rfl)
            obtain ⟨s, e85, hS⟩ : ∃ s : Int, (σ 85) = .int .i64 s ∧ SetP f g s := hd 4 (some 85) (by kernel_rfl) (by rfl)
            obtain ⟨h, e89, hH⟩ : ∃ h : Int, (σ 89) = .int .i64 (min rr h) ∧ HighP f g h := hd 8 (some 89) (by kernel_rfl) (by rfl)
            refine ⟨by simp [e83], fun K hK => ?_⟩
            simp only [List.getElem_toArray, List.getElem_cons_zero, List.getElem_cons_succ, Act.put, List.setIfInBounds_toArray, List.set_cons_zero, List.set_cons_succ, e83, e85, e89] at hK ⊢
            go_simp
            exact hK.out _ _ hw (Below.refl _ _) (congrArg Value.bool (beq_iff_eq.2 (HF.out.settled (q := a1 % 20) (by have := hk2.out; omega) HT.out hS hH (high_top HT.out hH (by omega) (by omega)))))
          refine Inv.Steps.go (by decide) (by rfl) (fun σ wx hw hd K hK => ?_) ?_
          · obtain e83 : (σ 83) = .bool true := hd 2 (some 83) (by kernel_rfl) (by rfl)
            obtain e90 : (σ 90) = .bool true := hd 9 (some 90) (by kernel_rfl) (by rfl)
            simp only [List.getElem_toArray, List.getElem_cons_zero, List.getElem_cons_succ, Act.put, List.setIfInBounds_toArray, List.set_cons_zero, List.set_cons_succ, e83, e90] at hK ⊢
            go_simp
            exact hK.out _ _ hw (Below.refl _ _) (rfl)
          refine Inv.Steps.go (by decide) (by rfl) (fun σ wx hw hd K hK => ?_) ?_
          · obtain e91 : (σ 91) = .bool true := hd 10 (some 91) (by kernel_rfl) (by rfl)
            simp only [List.getElem_toArray, List.getElem_cons_zero, List.getElem_cons_succ, Act.put, List.setIfInBounds_toArray, List.set_cons_zero, List.set_cons_succ, e91] at hK ⊢
            go_simp
            exact hK.out _ _ hw (Below.refl _ _) (rfl)
          refine Inv.Steps.on (by decide) 11 92 true (by rfl) (by rfl) (fun σ wx hw hd => ?_) ?_
          · obtain e92 : (σ 92) = .bool true := hd 11 (some 92) (by kernel_rfl) (by rfl)
            refine ⟨by simp [e92], fun K hK => ?_⟩
            simp only [List.getElem_toArray, List.getElem_cons_zero, List.getElem_cons_succ, Act.put, List.setIfInBounds_toArray, List.set_cons_zero, List.set_cons_succ, e92] at hK ⊢
            go_simp
            go_at_call 10
            refine (SN.out _).mono ?_
            rintro e w1 ⟨rfl, hb⟩
            dsimp only
            exact hK.out _ _ (Buf.then_ hw hb) hb (rfl)
          refine Inv.Steps.go (by decide) (by rfl) (fun σ wx hw hd K hK => ?_) ?_
          · obtain e92 : (σ 92) = .bool true := hd 11 (some 92) (by kernel_rfl) (by rfl)
            obtain e93 : (σ 93) = .bool true := hd 12 (some 93) (by kernel_rfl) (by rfl)
            simp only [List.getElem_toArray, List.getElem_cons_zero, List.getElem_cons_succ, Act.put, List.setIfInBounds_toArray, List.set_cons_zero, List.set_cons_succ, e92, e93] at hK ⊢
            go_simp
            exact hK.out _ _ hw (Below.refl _ _) (rfl)
          refine Inv.Steps.go (by decide) (by rfl) (fun σ wx hw hd K hK => ?_) ?_
          · obtain e94 : (σ 94) = .bool true := hd 13 (some 94) (by kernel_rfl) (by rfl)
            simp only [List.getElem_toArray, List.getElem_cons_zero, List.getElem_cons_succ, Act.put, List.setIfInBounds_toArray, List.set_cons_zero, List.set_cons_succ, e94] at hK ⊢
            go_simp
            exact hK.out _ _ hw (Below.refl _ _) (rfl)
          exact Inv.Steps.nil
        · intro σ wx hw hd
          obtain e4 : (σ 4) = .bool true := hd 14 (some 4) (by rfl) (by rfl)
          have BZ := Lib.hid (Buf.then_ (Buf.then_ (Buf.then_ BL.out B6.out) HB.out) hw)
          clear hd hw
          simp only [e4]
          refine Inv.done (by kernel_rfl) (NoPanic.normal ?_)
          go_wp2_with fail
          go_ret
          exact ⟨rfl, BZ.out⟩
  · have hd : decide ((len0 : Int) ≤ 500) = false := by simp; omega
    go_enter Try.func5, Try.ntmps5
    go_wp2_with (first | (go_at_call 9; refine (light_any _ _ _ _).mono ?_; rintro e w1 ⟨rfl, rfl⟩; rw [hd]) | (go_at_call 10; refine (SN.out _).mono ?_; rintro e wz ⟨rfl, hb⟩))
    go_ret
    exact ⟨rfl, hb⟩
end Laws
end Go.Proofs.Ytfneiomdgcoakaa
