/- Valid watches. -/
import Derived.Test.YtbmcmiggifknfaaDoorDetX
import Derived.Test.YtbmcmiggifknfaaDoorMidN
import Derived.Laws.StructEq
set_option linter.unusedVariables false
set_option linter.unusedSimpArgs false
namespace Go.Proofs.YtbmcmiggifknfaaDoor
open Go.RowKit Wi Dice
namespace Det
/-- What is asked of a watch: p values are kept, cnt samples were seen. -/
structure WG (L p cnt : Nat) (on off pk : Int) (U : Nat → Int) : Prop where
  p9 : p + 1 ≤ L
  pc : p ≤ cnt
  c9 : cnt ≤ 16777216
  all : p + 1 < L → cnt = p
  vals : ∀ j, j < p → 0 ≤ U j ∧ U j ≤ 1073741823
  opn : (on = -1 ∧ off = 0 ∧ pk = 0) ∨ (0 ≤ on ∧ on < cnt ∧ L ≤ cnt ∧ off = -1 ∧ 0 ≤ pk ∧ pk ≤ 1073741823)
theorem c9 {w : World} {g : Nat} {a0 a1 a2 a3 a4 a5 a6 a7 a8 : Value} {t : TypeId} (h : w.heap[g]? = some (.cells #[a0, a1, a2, a3, a4, a5, a6, a7, a8] t (0, 0))) : w.cell? ⟨g, 0, none⟩ = some a0 ∧ w.cell? ⟨g, 1, none⟩ = some a1 ∧ w.cell? ⟨g, 2, none⟩ = some a2 ∧ w.cell? ⟨g, 3, none⟩ = some a3 ∧ w.cell? ⟨g, 4, none⟩ = some a4 ∧ w.cell? ⟨g, 5, none⟩ = some a5 ∧ w.cell? ⟨g, 6, none⟩ = some a6 ∧ w.cell? ⟨g, 7, none⟩ = some a7 ∧ w.cell? ⟨g, 8, none⟩ = some a8 :=
  ⟨cell_of_row w g 0 _ _ _ h, cell_of_row w g 1 _ _ _ h, cell_of_row w g 2 _ _ _ h, cell_of_row w g 3 _ _ _ h, cell_of_row w g 4 _ _ _ h, cell_of_row w g 5 _ _ _ h, cell_of_row w g 6 _ _ _ h, cell_of_row w g 7 _ _ _ h, cell_of_row w g 8 _ _ _ h⟩
theorem sv_form {w : World} {v : Value} {n : Nat} {X : Nat → Int} (h : SV w v n X) : ∃ a c, v = .slice a n c ∧ n ≤ c := by
  obtain ⟨a, c, e, h1, _⟩ := h; exact ⟨a, c, e, h1⟩
theorem sv_at {w : World} {a : Option Addr} {n c : Nat} {X : Nat → Int} (h : SV w (.slice a n c) n X) (j : Nat) (hj : j < n) : ∃ b off, a = some ⟨b, off, none⟩ ∧ b < w.heap.size ∧ w.cell? ⟨b, off + j, none⟩ = some (.int .i64 (X j)) := by
  obtain ⟨a', c', e, _, _, h3⟩ := h
  cases e
  obtain ⟨b, off, rfl, h4, h5⟩ := h3 (by omega)
  exact ⟨b, off, rfl, h4, h5 j hj⟩
set_option maxHeartbeats 8000000 in
set_option maxRecDepth 100000 in
theorem validOpen_any {w : World} {S L p cnt : Nat} {ON OFF on off pk : Int} {pv : Value} {U : Nat → Int} (hd : DG ⟨S, L, ON, OFF⟩) (hx : SV w pv p U) (G : WG L p cnt on off pk U) (hcl : Cl w) :
    Calls Tryd.prog 34 #[.agg #[.int .i64 S, .int .i64 L, .int .i64 ON, .int .i64 OFF, pv, .int .i64 (cnt : Int), .int .i64 on, .int .i64 off, .int .i64 pk]] w fun e w' => e = .returned (.bool true) ∧ Below w.heap.size w w' := by
  obtain ⟨p9, pcn, c9', all, vals, opn⟩ := G
  clear vals
  obtain ⟨w1, hw1⟩ : ∃ w1, w1 = w.alloc (.cells #[.int .i64 S, .int .i64 L, .int .i64 ON, .int .i64 OFF, pv, .int .i64 (cnt : Int), .int .i64 on, .int .i64 off, .int .i64 pk] 34) := ⟨_, rfl⟩
  obtain ⟨q, hq⟩ : ∃ q, q = w.heap.size := ⟨_, rfl⟩
  have hb1 : Below w.heap.size w w1 := by rw [hw1]; exact new_block _
  have K1 := Lib.hid (show w1.heap[q]? = some (.cells #[.int .i64 S, .int .i64 L, .int .i64 ON, .int .i64 OFF, pv, .int .i64 (cnt : Int), .int .i64 on, .int .i64 off, .int .i64 pk] 34 (0, 0)) by rw [hw1, hq]; exact heap_alloc_new w _)
  have B1 := Lib.hid hb1
  have X1 := Lib.hid (hx.below hb1)
  have C1 := Lib.hid (hbk hb1 hcl)
  obtain ⟨q0, q1, q2, q3, q4, q5, q6, q7, q8⟩ := c9 K1.out
  obtain ⟨pa, pc, rfl, pnc⟩ := sv_form hx
  obtain ⟨r0, r1, r2⟩ := c3 C1.out
  go_enter Tryd.func34, Tryd.ntmps34
  go_upto_region 1 with fail
  rw [← hw1, ← hq]
  clear hw1 hq hb1 hx hcl
  rcases opn with ⟨rfl, rfl, rfl⟩ | ⟨h0, h1, h2, rfl, h4, h5⟩
  · go_wp2_with fail
    go_ret
    exact ⟨rfl, B1.out⟩
  · have hne : (on == -1) = false := by rw [beq_eq_false_iff_ne]; omega
    have h2' : (L : Int) ≤ (cnt : Int) := by omega
    go_wp2_with (go_at_call 32; refine (within_yes _ _ _ _ (by omega) (by omega)).mono ?_; rintro e w' ⟨rfl, m, rfl⟩)
    go_ret
    exact ⟨rfl, by repeat (first | exact B1.out | refine Buf.below_drewN ?_ _)⟩
set_option maxHeartbeats 8000000 in
set_option maxRecDepth 100000 in
theorem validWatch_any {w : World} {S L p cnt : Nat} {ON OFF on off pk : Int} {pv : Value} {U : Nat → Int} (hd : DG ⟨S, L, ON, OFF⟩) (hx : SV w pv p U) (G : WG L p cnt on off pk U) (hcl : Cl w) :
    Calls Tryd.prog 24 #[.agg #[.int .i64 S, .int .i64 L, .int .i64 ON, .int .i64 OFF, pv, .int .i64 (cnt : Int), .int .i64 on, .int .i64 off, .int .i64 pk]] w fun e w' => e = .returned (.bool true) ∧ Below w.heap.size w w' := by
  obtain ⟨p9, pcn, c9', all, vals, opn⟩ := id G
  obtain ⟨w1, hw1⟩ : ∃ w1, w1 = w.alloc (.cells #[.int .i64 S, .int .i64 L, .int .i64 ON, .int .i64 OFF, pv, .int .i64 (cnt : Int), .int .i64 on, .int .i64 off, .int .i64 pk] 34) := ⟨_, rfl⟩
  obtain ⟨q, hq⟩ : ∃ q, q = w.heap.size := ⟨_, rfl⟩
  have hb1 : Below w.heap.size w w1 := by rw [hw1]; exact new_block _
  have K1 := Lib.hid (show w1.heap[q]? = some (.cells #[.int .i64 S, .int .i64 L, .int .i64 ON, .int .i64 OFF, pv, .int .i64 (cnt : Int), .int .i64 on, .int .i64 off, .int .i64 pk] 34 (0, 0)) by rw [hw1, hq]; exact heap_alloc_new w _)
  have B1 := Lib.hid hb1
  have X1 := Lib.hid (hx.below hb1)
  have C1 := Lib.hid (hbk hb1 hcl)
  obtain ⟨q0, q1, q2, q3, q4, q5, q6, q7, q8⟩ := c9 K1.out
  obtain ⟨pa, pc, rfl, pnc⟩ := sv_form hx
  have VD := Lib.hid fun (w' : World) => valid_yes hd w'
  have VO := Lib.hid fun (w' : World) (h : Below w1.heap.size w1 w') => validOpen_any hd (X1.out.below h) G (hbk h C1.out)
  replace vals := Lib.hid vals
  have l9 := hd.l9
  have sl := hd.sl
  simp only at l9 sl
  have g1 : (p : Int) ≤ (cnt : Int) := by omega
  have g2 : (cnt : Int) ≤ 16777216 := by omega
  have g3 : ¬ ((L : Int) - 1 < (p : Int)) := by omega
  clear opn G
  go_enter Tryd.func24, Tryd.ntmps24
  go_upto_region 1 with fail
  rw [← hw1, ← hq]
  clear hw1 hq hb1 hx hcl
  go_wp2_with fail
  refine (VD.out _).mono ?_
  rintro e w2 ⟨rfl, hb⟩
  replace K1 := Lib.hid (hbk hb K1.out)
  have B2 := Lib.hid hb
  replace B1 := Lib.hid (Buf.then_ B1.out hb)
  clear hb q0 q1 q2 q3 q4 q5 q6 q7 q8
  obtain ⟨q0, q1, q2, q3, q4, q5, q6, q7, q8⟩ := c9 K1.out
  by_cases hpl : p + 1 < L
  · have hcp := all hpl
    subst hcp
    have g4 : (cnt : Int) < (L : Int) - 1 := by omega
    go_wp2_with (go_at_call 32; refine (within_yes _ _ _ _ (by omega) (by omega)).mono ?_; rintro e w' ⟨rfl, m, rfl⟩)
    have BM := Buf.below_drewN (Below.refl w2.heap.size w2) m
    generalize w2.drewN m = w3 at *
    have B3 := Lib.hid (Buf.then_ B2.out BM)
    replace K1 := Lib.hid (hbk BM K1.out)
    replace B1 := Lib.hid (Buf.then_ B1.out BM)
    clear q0 q1 q2 q3 q4 q5 q6 q7 q8 BM
    obtain ⟨q0, q1, q2, q3, q4, q5, q6, q7, q8⟩ := c9 K1.out
    go_loopw [45] (fun v wr => ∃ j : Nat, j ≤ cnt ∧ v = .int .i64 j ∧ Hid (Below w3.heap.size w3 wr)) (fun v _ => cnt - (intOf v).toNat)
    case atStart => exact ⟨0, by omega, rfl, Lib.hid (Below.refl _ _)⟩
    case round =>
      obtain ⟨j, hj, rfl, BJ⟩ := hrel
      by_cases hlt : j < cnt
      · obtain ⟨b, o, rfl, hbl, hc⟩ := sv_at (X1.out.below (Buf.then_ B3.out BJ.out)) j hlt
        obtain ⟨v0, v9⟩ := vals.out j hlt
        generalize U j = uj at *
        go_wp2_with (go_at_call 32; refine (within_yes _ _ _ _ (by omega) (by omega)).mono ?_; rintro e w' ⟨rfl, m, rfl⟩)
        go_roundw
        case rel => exact ⟨j + 1, by omega, by go_num, Lib.hid (Buf.below_drewN BJ.out _)⟩
        case measure => simp [intOf]; omega
      · have KJ := Lib.hid (hbk BJ.out K1.out)
        clear q0 q1 q2 q3 q4 q5 q6 q7 q8
        go_wp2_with ((with_reducible refine Mid.ldr 34 (.tmp 1) q 34 #[.int .i64 S, .int .i64 L, .int .i64 ON, .int .i64 OFF, .slice pa cnt pc, .int .i64 (cnt : Int), .int .i64 on, .int .i64 off, .int .i64 pk] KJ.out ?_ ?_ ?_ ?_ ?_ ?_); (· rfl); (· rfl); (· first | rfl | simp [Act.eval]); (· exact ⟨_, rfl, rfl⟩); (· kernel_rfl))
        refine (VO.out _ (Buf.then_ B3.out BJ.out)).mono ?_
        rintro e w9 ⟨rfl, hb9⟩
        go_wp2_with fail
        go_ret
        exact ⟨rfl, Buf.then_ (Buf.then_ B1.out BJ.out) hb9⟩
  · have g4 : ¬ ((p : Int) < (L : Int) - 1) := by omega
    go_wp2_with (go_at_call 32; refine (within_yes _ _ _ _ (by omega) (by omega)).mono ?_; rintro e w' ⟨rfl, m, rfl⟩)
    have BM := Buf.below_drewN (Below.refl w2.heap.size w2) m
    generalize w2.drewN m = w3 at *
    have B3 := Lib.hid (Buf.then_ B2.out BM)
    replace K1 := Lib.hid (hbk BM K1.out)
    replace B1 := Lib.hid (Buf.then_ B1.out BM)
    clear q0 q1 q2 q3 q4 q5 q6 q7 q8 BM
    obtain ⟨q0, q1, q2, q3, q4, q5, q6, q7, q8⟩ := c9 K1.out
    go_loopw [45] (fun v wr => ∃ j : Nat, j ≤ p ∧ v = .int .i64 j ∧ Hid (Below w3.heap.size w3 wr)) (fun v _ => p - (intOf v).toNat)
    case atStart => exact ⟨0, by omega, rfl, Lib.hid (Below.refl _ _)⟩
    case round =>
      obtain ⟨j, hj, rfl, BJ⟩ := hrel
      by_cases hlt : j < p
      · obtain ⟨b, o, rfl, hbl, hc⟩ := sv_at (X1.out.below (Buf.then_ B3.out BJ.out)) j hlt
        obtain ⟨v0, v9⟩ := vals.out j hlt
        generalize U j = uj at *
        go_wp2_with (go_at_call 32; refine (within_yes _ _ _ _ (by omega) (by omega)).mono ?_; rintro e w' ⟨rfl, m, rfl⟩)
        go_roundw
        case rel => exact ⟨j + 1, by omega, by go_num, Lib.hid (Buf.below_drewN BJ.out _)⟩
        case measure => simp [intOf]; omega
      · have KJ := Lib.hid (hbk BJ.out K1.out)
        clear q0 q1 q2 q3 q4 q5 q6 q7 q8
        go_wp2_with ((with_reducible refine Mid.ldr 34 (.tmp 1) q 34 #[.int .i64 S, .int .i64 L, .int .i64 ON, .int .i64 OFF, .slice pa p pc, .int .i64 (cnt : Int), .int .i64 on, .int .i64 off, .int .i64 pk] KJ.out ?_ ?_ ?_ ?_ ?_ ?_); (· rfl); (· rfl); (· first | rfl | simp [Act.eval]); (· exact ⟨_, rfl, rfl⟩); (· kernel_rfl))
        refine (VO.out _ (Buf.then_ B3.out BJ.out)).mono ?_
        rintro e w9 ⟨rfl, hb9⟩
        go_wp2_with fail
        go_ret
        exact ⟨rfl, Buf.then_ (Buf.then_ B1.out BJ.out) hb9⟩
end Det
end Go.Proofs.YtbmcmiggifknfaaDoor
