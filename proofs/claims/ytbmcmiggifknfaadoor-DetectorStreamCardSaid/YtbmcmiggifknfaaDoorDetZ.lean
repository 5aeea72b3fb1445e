/- Start, Finish, and the reference's view of a watch. -/
import Derived.Test.YtbmcmiggifknfaaDoorDetY
import Derived.Test.YtbmcmiggifknfaaDoorRes
set_option linter.unusedVariables false
set_option linter.unusedSimpArgs false
namespace Go.Proofs.YtbmcmiggifknfaaDoor
open Go.RowKit Wi Dice
namespace Det
theorem refin_yes (n lo hi : Int) (w : World) (h1 : lo ≤ n) (h2 : n ≤ hi) :
    Calls Tryd.prog 31 #[.int .i64 n, .int .i64 lo, .int .i64 hi] w fun e w' => e = .returned (.bool true) ∧ ∃ m, w' = w.drewN m := by
  go_enter Tryd.func31, Tryd.ntmps31
  go_wp2
  go_ret
  exact ⟨rfl, 0, rfl⟩
set_option maxHeartbeats 2000000 in
theorem refvalid_yes {S L : Nat} {on off : Int} (h : DG ⟨S, L, on, off⟩) (w : World) :
    Calls Tryd.prog 30 #[.agg #[.int .i64 S, .int .i64 L, .int .i64 on, .int .i64 off]] w fun e w' => e = .returned (.bool true) ∧ Below w.heap.size w w' := by
  obtain ⟨s1, sl, l9, f1, fo, o9⟩ := h
  simp only at s1 sl l9 f1 fo o9
  go_enter Tryd.func30, Tryd.ntmps30
  go_wp2_with fail
  go_ret
  exact ⟨rfl, new_block _⟩
set_option maxHeartbeats 8000000 in
set_option maxRecDepth 100000 in
theorem start_any {w : World} {S L : Nat} {ON OFF : Int} (hd : DG ⟨S, L, ON, OFF⟩) (hcl : Cl w) :
    Calls Tryd.prog 12 #[.agg #[.int .i64 S, .int .i64 L, .int .i64 ON, .int .i64 OFF]] w fun e w' => e = .returned (.tuple #[.agg #[.int .i64 S, .int .i64 L, .int .i64 ON, .int .i64 OFF, .slice none 0 0, .int .i64 0, .int .i64 (-1), .int .i64 0, .int .i64 0], .int .i64 0]) ∧ Below w.heap.size w w' := by
  have VD := Lib.hid fun (w' : World) => valid_yes hd w'
  clear hd
  go_enter Tryd.func12, Tryd.ntmps12
  obtain ⟨w1, hw1⟩ : ∃ w1, w1 = w.alloc (.cells #[.int .i64 S, .int .i64 L, .int .i64 ON, .int .i64 OFF] 28) := ⟨_, rfl⟩
  obtain ⟨w2, hw2⟩ : ∃ w2, w2 = w1.alloc (.cells #[.int .i64 0, .int .i64 0, .int .i64 0, .int .i64 0, .slice none 0 0, .int .i64 0, .int .i64 0, .int .i64 0, .int .i64 0] 34) := ⟨_, rfl⟩
  obtain ⟨q, hq⟩ : ∃ q, q = w.heap.size := ⟨_, rfl⟩
  obtain ⟨q', hq'⟩ : ∃ q', q' = w.heap.size + 1 := ⟨_, rfl⟩
  have s1 : w1.heap.size = w.heap.size + 1 := by rw [hw1]; simp
  have b1 : Below w.heap.size w w1 := by rw [hw1]; exact new_block _
  have b2 : Below w1.heap.size w1 w2 := by rw [hw2]; exact new_block _
  have B2 := Lib.hid (Buf.then_ b1 b2)
  have K1 := Lib.hid (hbk b2 (show w1.heap[q]? = some (.cells #[.int .i64 S, .int .i64 L, .int .i64 ON, .int .i64 OFF] 28 (0, 0)) by rw [hw1, hq]; exact heap_alloc_new w _))
  have K2 := Lib.hid (show w2.heap[q']? = some (.cells #[.int .i64 0, .int .i64 0, .int .i64 0, .int .i64 0, .slice none 0 0, .int .i64 0, .int .i64 0, .int .i64 0, .int .i64 0] 34 (0, 0)) by rw [hw2, hq', ← s1]; exact heap_alloc_new w1 _)
  have C2 := Lib.hid (hbk b2 (hbk b1 hcl))
  have nq : Hid (w.heap.size ≤ q') := Lib.hid (by omega)
  obtain ⟨r0, r1, r2, r3⟩ := c4 K1.out
  go_upto_region 1 with fail
  rw [← hw1, ← hw2, ← hq', ← hq]
  clear hw1 hw2 hq hq' b1 b2 hcl s1
  go_wp2_with fail
  refine (VD.out _).mono ?_
  rintro e w3 ⟨rfl, hb⟩
  replace B2 := Lib.hid (Buf.then_ B2.out hb)
  replace K1 := Lib.hid (hbk hb K1.out)
  replace K2 := Lib.hid (hbk hb K2.out)
  replace C2 := Lib.hid (hbk hb C2.out)
  clear r0 r1 r2 r3 hb
  obtain ⟨r0, r1, r2, r3⟩ := c4 K1.out
  go_wp2_with (first
    | ((with_reducible refine Mid.ldr 32 (.global 0) 0 32 #[.int .i64 (-1), .int .i64 0, .int .i64 0] C2.out ?_ ?_ ?_ ?_ ?_ ?_); (· rfl); (· rfl); (· first | rfl | simp [Act.eval]); (· exact ⟨_, rfl, rfl⟩); (· kernel_rfl))
    | ((with_reducible refine Mid.str 34 (.tmp 2) (.tmp 10) q' 34 #[.int .i64 0, .int .i64 0, .int .i64 0, .int .i64 0, .slice none 0 0, .int .i64 0, .int .i64 0, .int .i64 0, .int .i64 0] #[.int .i64 S, .int .i64 L, .int .i64 ON, .int .i64 OFF, .slice none 0 0, .int .i64 0, .int .i64 (-1), .int .i64 0, .int .i64 0] K2.out ?_ ?_ ?_ ?_ ?_ ?_ ?_ ?_); (· rfl); (· rfl); (· first | rfl | simp [Act.eval]); (· first | rfl | simp [Act.eval]); (· kernel_rfl); (· rfl); (· simp [Value.oneCell'])))
  have KZ := setRow_heap w3 q' _ #[.int .i64 S, .int .i64 L, .int .i64 ON, .int .i64 OFF, .slice none 0 0, .int .i64 0, .int .i64 (-1), .int .i64 0, .int .i64 0] _ _ K2.out
  refine bodyPost_ret (Res.row_tmp rfl _ _ q' _ _ _ _ rfl KZ rfl (by rfl) rfl) rfl ⟨rfl, Mid.below_row B2.out q' _ nq.out⟩
set_option maxHeartbeats 8000000 in
set_option maxRecDepth 100000 in
theorem finish_any {w : World} {S L p cnt : Nat} {ON OFF on off pk : Int} {pv : Value} {U : Nat → Int} (hd : DG ⟨S, L, ON, OFF⟩) (hx : SV w pv p U) (G : WG L p cnt on off pk U) (hcl : Cl w) :
    Calls Tryd.prog 16 #[.agg #[.int .i64 S, .int .i64 L, .int .i64 ON, .int .i64 OFF, pv, .int .i64 (cnt : Int), .int .i64 on, .int .i64 off, .int .i64 pk]] w fun e w' => (∃ q, e = .returned (.tuple #[q, .int .i64 0]) ∧ ((on < 0 ∧ q = .slice none 0 0) ∨ (0 ≤ on ∧ ∃ b, q = .slice (some ⟨b, 0, none⟩) 1 1 ∧ w.heap.size ≤ b ∧ w'.heap[b]? = some (.cells #[.int .i64 on, .int .i64 off, .int .i64 pk] 32 (0, 0))))) ∧ Below w.heap.size w w' := by
  have OP := Lib.hid G.opn
  obtain ⟨w1, hw1⟩ : ∃ w1, w1 = w.alloc (.cells #[.int .i64 S, .int .i64 L, .int .i64 ON, .int .i64 OFF, pv, .int .i64 (cnt : Int), .int .i64 on, .int .i64 off, .int .i64 pk] 34) := ⟨_, rfl⟩
  obtain ⟨q, hq⟩ : ∃ q, q = w.heap.size := ⟨_, rfl⟩
  have hb1 : Below w.heap.size w w1 := by rw [hw1]; exact new_block _
  have K1 := Lib.hid (show w1.heap[q]? = some (.cells #[.int .i64 S, .int .i64 L, .int .i64 ON, .int .i64 OFF, pv, .int .i64 (cnt : Int), .int .i64 on, .int .i64 off, .int .i64 pk] 34 (0, 0)) by rw [hw1, hq]; exact heap_alloc_new w _)
  have B1 := Lib.hid hb1
  have X1 := Lib.hid (hx.below hb1)
  have C1 := Lib.hid (hbk hb1 hcl)
  obtain ⟨q0, q1, q2, q3, q4, q5, q6, q7, q8⟩ := c9 K1.out
  obtain ⟨pa, pc, rfl, pnc⟩ := sv_form hx
  have VW := Lib.hid (validWatch_any hd X1.out G C1.out)
  go_enter Tryd.func16, Tryd.ntmps16
  go_upto_region 1 with fail
  rw [← hw1, ← hq]
  clear hw1 hq hb1 hx hcl
  go_wp2_with fail
  refine VW.out.mono ?_
  rintro e w2 ⟨rfl, hb⟩
  have B2 := Lib.hid (Buf.then_ B1.out hb)
  replace K1 := Lib.hid (hbk hb K1.out)
  clear q0 q1 q2 q3 q4 q5 q6 q7 q8
  obtain ⟨q0, q1, q2, q3, q4, q5, q6, q7, q8⟩ := c9 K1.out
  clear hb
  by_cases h0 : on < 0
  · go_wp2_with fail
    go_ret2
    exact ⟨⟨_, rfl, .inl ⟨h0, rfl⟩⟩, B2.out⟩
  · have hsz := B2.out.size
    go_wp2_with fail
    go_ret2
    exact ⟨⟨_, rfl, .inr ⟨by omega, _, rfl, hsz, heap_alloc_new w2 _⟩⟩, Buf.then_ B2.out (new_block _)⟩
set_option maxHeartbeats 8000000 in
set_option maxRecDepth 100000 in
theorem refwatch_any {w : World} {S L p cnt : Nat} {ON OFF on off pk : Int} {pv : Value} {U : Nat → Int} (hd : DG ⟨S, L, ON, OFF⟩) (hx : SV w pv p U) (G : WG L p cnt on off pk U) (hcl : Cl w) :
    Calls Tryd.prog 15 #[.agg #[.int .i64 S, .int .i64 L, .int .i64 ON, .int .i64 OFF, pv, .int .i64 (cnt : Int), .int .i64 on, .int .i64 off, .int .i64 pk]] w fun e w' => e = .returned (.bool true) ∧ Below w.heap.size w w' := by
  obtain ⟨p9, pcn, c9', all, vals, opn⟩ := id G
  obtain ⟨w1, hw1⟩ : ∃ w1, w1 = w.alloc (.cells #[.int .i64 S, .int .i64 L, .int .i64 ON, .int .i64 OFF, pv, .int .i64 (cnt : Int), .int .i64 on, .int .i64 off, .int .i64 pk] 34) := ⟨_, rfl⟩
  obtain ⟨q, hq⟩ : ∃ q, q = w.heap.size := ⟨_, rfl⟩
  have hb1 : Below w.heap.size w w1 := by rw [hw1]; exact new_block _
  have K1 := Lib.hid (show w1.heap[q]? = some (.cells #[.int .i64 S, .int .i64 L, .int .i64 ON, .int .i64 OFF, pv, .int .i64 (cnt : Int), .int .i64 on, .int .i64 off, .int .i64 pk] 34 (0, 0)) by rw [hw1, hq]; exact heap_alloc_new w _)
  have B1 := Lib.hid hb1
  have X1 := Lib.hid (hx.below hb1)
  have C1 := Lib.hid (hbk hb1 hcl)
  obtain ⟨q0, q1, q2, q3, q4, q5, q6, q7, q8⟩ := c9 K1.out
  obtain ⟨pa, pc, rfl, pnc⟩ := sv_form hx
  have VD := Lib.hid fun (w' : World) => refvalid_yes hd w'
  have l9 := hd.l9
  have sl := hd.sl
  simp only at l9 sl
  replace vals := Lib.hid vals
  replace opn := Lib.hid opn
  clear G
  go_enter Tryd.func15, Tryd.ntmps15
  go_upto_region 1 with fail
  rw [← hw1, ← hq]
  clear hw1 hq hb1 hx hcl
  go_upto_region 2 with fail
  obtain ⟨w2, hw2⟩ : ∃ w2, w2 = w1.alloc (.cells #[.int .i64 S, .int .i64 L, .int .i64 ON, .int .i64 OFF] 28) := ⟨_, rfl⟩
  obtain ⟨q', hq'⟩ : ∃ q', q' = w1.heap.size := ⟨_, rfl⟩
  have b2 : Below w1.heap.size w1 w2 := by rw [hw2]; exact new_block _
  have D1 := Lib.hid (show w2.heap[q']? = some (.cells #[.int .i64 S, .int .i64 L, .int .i64 ON, .int .i64 OFF] 28 (0, 0)) by rw [hw2, hq']; exact heap_alloc_new w1 _)
  rw [← hw2, ← hq']
  clear hw2 hq'
  replace B1 := Lib.hid (Buf.then_ B1.out b2)
  replace K1 := Lib.hid (hbk b2 K1.out)
  replace X1 := Lib.hid (X1.out.below b2)
  clear q0 q1 q2 q3 q4 q5 q6 q7 q8 b2
  obtain ⟨q0, q1, q2, q3, q4, q5, q6, q7, q8⟩ := c9 K1.out
  obtain ⟨r0, r1, r2, r3⟩ := c4 D1.out
  have g1 : (p : Int) ≤ (cnt : Int) := by omega
  have g2 : (cnt : Int) ≤ 16777216 := by omega
  have g3 : ¬ ((L : Int) - 1 < (p : Int)) := by omega
  go_wp2_with fail
  refine (VD.out _).mono ?_
  rintro e w3 ⟨rfl, hb⟩
  replace B1 := Lib.hid (Buf.then_ B1.out hb)
  replace K1 := Lib.hid (hbk hb K1.out)
  replace D1 := Lib.hid (hbk hb D1.out)
  replace X1 := Lib.hid (X1.out.below hb)
  clear q0 q1 q2 q3 q4 q5 q6 q7 q8 r0 r1 r2 r3 hb
  obtain ⟨q0, q1, q2, q3, q4, q5, q6, q7, q8⟩ := c9 K1.out
  obtain ⟨r0, r1, r2, r3⟩ := c4 D1.out
  by_cases hpl : p + 1 < L
  · have hcp := all hpl
    subst hcp
    have g4 : (cnt : Int) < (L : Int) - 1 := by omega
    go_wp2_with (go_at_call 31; refine (refin_yes _ _ _ _ (by omega) (by omega)).mono ?_; rintro e w' ⟨rfl, m, rfl⟩)
    have BM := Buf.below_drewN (Below.refl w3.heap.size w3) m
    generalize w3.drewN m = w4 at *
    replace B1 := Lib.hid (Buf.then_ B1.out BM)
    replace K1 := Lib.hid (hbk BM K1.out)
    replace D1 := Lib.hid (hbk BM D1.out)
    replace X1 := Lib.hid (X1.out.below BM)
    clear q0 q1 q2 q3 q4 q5 q6 q7 q8 r0 r1 r2 r3 BM
    obtain ⟨q0, q1, q2, q3, q4, q5, q6, q7, q8⟩ := c9 K1.out
    obtain ⟨r0, r1, r2, r3⟩ := c4 D1.out
    go_loopw [4] (fun v wr => ∃ j : Nat, j ≤ cnt ∧ v = .int .i64 j ∧ Hid (Below w4.heap.size w4 wr)) (fun v _ => cnt - (intOf v).toNat)
    case atStart => exact ⟨0, by omega, rfl, Lib.hid (Below.refl _ _)⟩
    case round =>
      obtain ⟨j, hj, rfl, BJ⟩ := hrel
      replace K1 := Lib.hid (hbk BJ.out K1.out)
      replace D1 := Lib.hid (hbk BJ.out D1.out)
      replace B1 := Lib.hid (Buf.then_ B1.out BJ.out)
      clear q0 q1 q2 q3 q4 q5 q6 q7 q8 r0 r1 r2 r3
      obtain ⟨q0, q1, q2, q3, q4, q5, q6, q7, q8⟩ := c9 K1.out
      obtain ⟨r0, r1, r2, r3⟩ := c4 D1.out
      by_cases hlt : j < cnt
      · obtain ⟨b, o, rfl, hbl, hc⟩ := sv_at (X1.out.below BJ.out) j hlt
        obtain ⟨v0, v9⟩ := vals.out j hlt
        generalize U j = uj at *
        go_wp2_with (go_at_call 31; refine (refin_yes _ _ _ _ (by omega) (by omega)).mono ?_; rintro e w' ⟨rfl, m, rfl⟩)
        go_roundw
        case rel => exact ⟨j + 1, by omega, by go_num, Lib.hid (Buf.below_drewN BJ.out _)⟩
        case measure => simp [intOf]; omega
      · clear r0 r1 r2 r3
        obtain ⟨w5, hw5⟩ : ∃ w5, w5 = wr.alloc (.cells #[.int .i64 on, .int .i64 off, .int .i64 pk] 32) := ⟨_, rfl⟩
        obtain ⟨q5', hq5⟩ : ∃ q5', q5' = wr.heap.size := ⟨_, rfl⟩
        have b5 : Below wr.heap.size wr w5 := by rw [hw5]; exact new_block _
        have T1 := Lib.hid (show w5.heap[q5']? = some (.cells #[.int .i64 on, .int .i64 off, .int .i64 pk] 32 (0, 0)) by rw [hw5, hq5]; exact heap_alloc_new wr _)
        go_upto_region 10 with fail
        rw [← hw5, ← hq5]
        clear hw5 hq5
        replace B1 := Lib.hid (Buf.then_ B1.out b5)
        replace K1 := Lib.hid (hbk b5 K1.out)
        replace D1 := Lib.hid (hbk b5 D1.out)
        clear q0 q1 q2 q3 q4 q5 q6 q7 q8 b5
        obtain ⟨q0, q1, q2, q3, q4, q5, q6, q7, q8⟩ := c9 K1.out
        obtain ⟨r0, r1, r2, r3⟩ := c4 D1.out
        obtain ⟨y0, y1, y2⟩ := c3 T1.out
        rcases opn.out with ⟨h0, h1, h2⟩ | ⟨h0, h1, h2, h3, h4, h5⟩
        · subst h0; subst h1; subst h2
          go_wp2_with fail
          go_ret
          exact ⟨rfl, B1.out⟩
        · exfalso; omega
  · have g4 : ¬ ((p : Int) < (L : Int) - 1) := by omega
    go_wp2_with (go_at_call 31; refine (refin_yes _ _ _ _ (by omega) (by omega)).mono ?_; rintro e w' ⟨rfl, m, rfl⟩)
    have BM := Buf.below_drewN (Below.refl w3.heap.size w3) m
    generalize w3.drewN m = w4 at *
    replace B1 := Lib.hid (Buf.then_ B1.out BM)
    replace K1 := Lib.hid (hbk BM K1.out)
    replace D1 := Lib.hid (hbk BM D1.out)
    replace X1 := Lib.hid (X1.out.below BM)
    clear q0 q1 q2 q3 q4 q5 q6 q7 q8 r0 r1 r2 r3 BM
    obtain ⟨q0, q1, q2, q3, q4, q5, q6, q7, q8⟩ := c9 K1.out
    obtain ⟨r0, r1, r2, r3⟩ := c4 D1.out
    go_loopw [4] (fun v wr => ∃ j : Nat, j ≤ p ∧ v = .int .i64 j ∧ Hid (Below w4.heap.size w4 wr)) (fun v _ => p - (intOf v).toNat)
    case atStart => exact ⟨0, by omega, rfl, Lib.hid (Below.refl _ _)⟩
    case round =>
      obtain ⟨j, hj, rfl, BJ⟩ := hrel
      replace K1 := Lib.hid (hbk BJ.out K1.out)
      replace D1 := Lib.hid (hbk BJ.out D1.out)
      replace B1 := Lib.hid (Buf.then_ B1.out BJ.out)
      clear q0 q1 q2 q3 q4 q5 q6 q7 q8 r0 r1 r2 r3
      obtain ⟨q0, q1, q2, q3, q4, q5, q6, q7, q8⟩ := c9 K1.out
      obtain ⟨r0, r1, r2, r3⟩ := c4 D1.out
      by_cases hlt : j < p
      · obtain ⟨b, o, rfl, hbl, hc⟩ := sv_at (X1.out.below BJ.out) j hlt
        obtain ⟨v0, v9⟩ := vals.out j hlt
        generalize U j = uj at *
        go_wp2_with (go_at_call 31; refine (refin_yes _ _ _ _ (by omega) (by omega)).mono ?_; rintro e w' ⟨rfl, m, rfl⟩)
        go_roundw
        case rel => exact ⟨j + 1, by omega, by go_num, Lib.hid (Buf.below_drewN BJ.out _)⟩
        case measure => simp [intOf]; omega
      · clear r0 r1 r2 r3
        obtain ⟨w5, hw5⟩ : ∃ w5, w5 = wr.alloc (.cells #[.int .i64 on, .int .i64 off, .int .i64 pk] 32) := ⟨_, rfl⟩
        obtain ⟨q5', hq5⟩ : ∃ q5', q5' = wr.heap.size := ⟨_, rfl⟩
        have b5 : Below wr.heap.size wr w5 := by rw [hw5]; exact new_block _
        have T1 := Lib.hid (show w5.heap[q5']? = some (.cells #[.int .i64 on, .int .i64 off, .int .i64 pk] 32 (0, 0)) by rw [hw5, hq5]; exact heap_alloc_new wr _)
        go_upto_region 10 with fail
        rw [← hw5, ← hq5]
        clear hw5 hq5
        replace B1 := Lib.hid (Buf.then_ B1.out b5)
        replace K1 := Lib.hid (hbk b5 K1.out)
        replace D1 := Lib.hid (hbk b5 D1.out)
        clear q0 q1 q2 q3 q4 q5 q6 q7 q8 b5
        obtain ⟨q0, q1, q2, q3, q4, q5, q6, q7, q8⟩ := c9 K1.out
        obtain ⟨r0, r1, r2, r3⟩ := c4 D1.out
        obtain ⟨y0, y1, y2⟩ := c3 T1.out
        rcases opn.out with ⟨h0, h1, h2⟩ | ⟨h0, h1, h2, h3, h4, h5⟩
        · subst h0; subst h1; subst h2
          go_wp2_with fail
          go_ret
          exact ⟨rfl, B1.out⟩
        · subst h3
          have hne : (on == -1) = false := by rw [beq_eq_false_iff_ne]; omega
          have h2' : (L : Int) ≤ (cnt : Int) := by omega
          go_wp2_with (go_at_call 31; refine (refin_yes _ _ _ _ (by omega) (by omega)).mono ?_; rintro e w' ⟨rfl, m, rfl⟩)
          go_ret
          exact ⟨rfl, by repeat (first | exact B1.out | refine Buf.below_drewN ?_ _)⟩
end Det
end Go.Proofs.YtbmcmiggifknfaaDoor
