/- The walk of TravelBack. -/
import Derived.Test.YtkbpeljpmgeniaaTravelM
namespace Go.Proofs.Ytkbpeljpmgeniaa
open Go.RowKit
namespace Laws
set_option maxHeartbeats 8000000 in
set_option maxRecDepth 100000 in
theorem travelBack_walk (a0 : Option Addr) (len0 cap0 : Nat) (z0 : List Int) (a1 : Int) (w : World) (w0 : Buf.IsRow .i64 w a0 len0 cap0 z0) (_w1 : (Lit.int .i64 a1).wf = true) :
    Calls Try.prog 5 #[.slice a0 len0 cap0, .int .i64 a1] w fun e w' => e = .returned (.bool true) ∧ Below w.heap.size w w' := by
  go_enter Try.func5, Try.ntmps5
  go_wp2_with fail
  refine (Src.new_any a0 len0 cap0 z0 w w0).mono ?_
  rintro e0 wA ⟨rfl, m, hd⟩
  have L0 := Lib.hid (Src.Left.refl hd)
  clear hd w0
  go_wp2_with fail
  refine (Trav.table_any L0.out.di).mono ?_
  rintro e0 w2 ⟨⟨s, b1, b2, n, c1, c2, lo, hi, rfl, tv, re, s9, n9, lb1, lb2⟩, hl⟩
  have ltA := L0.out.di.lt
  have nb1 : b1 ≠ w.heap.size := by omega
  have nb2 : b2 ≠ w.heap.size := by omega
  replace L0 := Lib.hid (L0.out.trans hl)
  have s1 := tv.s1
  have n2 := tv.n3
  have r9 := Trav.reach_small s9 n2 n9
  have lt2 := L0.out.di.lt
  have neT : w2.heap.size ≠ w.heap.size := by omega
  have g1 := Lib.hid (Trav.blk_new w2 (.cells #[.int .i64 s, .slice (some ⟨b1, 0, none⟩) n c1, .slice (some ⟨b2, 0, none⟩) n c2] 26))
  replace L0 := Lib.hid (L0.out.alloc (.cells #[.int .i64 s, .slice (some ⟨b1, 0, none⟩) n c1, .slice (some ⟨b2, 0, none⟩) n c2] 26))
  replace tv := Lib.hid (tv.below (Trav.new_block (.cells #[.int .i64 s, .slice (some ⟨b1, 0, none⟩) n c1, .slice (some ⟨b2, 0, none⟩) n c2] 26)))
  clear hl ltA
  have R := Lib.hid fun w h => Trav.Reach_yes s b1 b2 n c1 c2 lo hi w h
  have B := Lib.hid fun x y q1 q2 w h => Trav.between_sq s b1 b2 n c1 c2 lo hi x y q1 q2 w h
  have IL := Lib.hid fun x (x0 : 0 ≤ x) (hx : x ≤ s * ((n : Int) - 1)) => Trav.idx_lo (s := s) (n := n) s1 x0 hx
  have IH := Lib.hid fun x (x0 : 0 ≤ x) (hx : x ≤ s * ((n : Int) - 1)) => Trav.idx_hi (s := s) (n := n) s1 x0 hx
  have D := Trav.dist_law s b1 b2 n c1 c2 lo hi (a1 % 900) _ tv.out
  generalize s * ((n : Int) - 1) = rr at *
  have hb := Lib.hid L0.out.di.bel
  clear L0
  have m0 : 0 ≤ a1 % 900 := by omega
  have m1 : a1 % 900 < 900 := by omega
  have M : Hid (∀ w, Calls Try.prog 9 #[.int .i64 a1, .int .i64 900] w fun e w' => e = .returned (.int .i64 (a1 % 900)) ∧ w' = w) := Lib.hid fun w => Keep.mod_any a1 900 w (by omega) (by omega)
  generalize a1 % 900 = tm at *
  obtain ⟨x1, x2, x3⟩ := Trav.tcells g1.out
  rcases D with ⟨F, T, F0, FT, T9, IN, DC⟩ | ⟨IN, DC⟩
  · replace IN := Lib.hid IN
    replace DC := Lib.hid DC
    go_wp2_with (go_at_call 9; with_reducible refine (M.out _).mono ?_; rintro e w1 ⟨rfl, rfl⟩)
    refine (DC.out _ tv.out).mono ?_
    rintro e0 w4 ⟨rfl, hc⟩
    replace g1 := Lib.hid (Trav.blk_b hc g1.out)
    replace tv := Lib.hid (tv.out.below hc)
    replace hb := Lib.hid (Buf.then_ hb.out hc)
    clear hc x1 x2 x3 DC M
    go_wp2_with fail
    go_loopw [10, 11] (fun a i wr => ∃ k : Nat, (k : Int) ≤ rr + 1 ∧ i = .int .i64 k ∧ a = .bool (decide (F < k)) ∧ Hid (wr.heap[w2.heap.size]? = some (.cells #[.int .i64 s, .slice (some ⟨b1, 0, none⟩) n c1, .slice (some ⟨b2, 0, none⟩) n c2] 26)) ∧ Hid (Trav.TV wr s b1 b2 n lo hi) ∧ Hid (Below w.heap.size w wr)) (fun _ i _ => (rr + 1 - intOf i).toNat)
    case atStart => exact ⟨0, by omega, rfl, by rw [decide_eq_false (by omega)], g1, tv, hb⟩
    case round =>
      obtain ⟨k, hk, rfl, rfl, g1, tv, hb⟩ := hrel
      obtain ⟨x1, x2, x3⟩ := Trav.tcells g1.out
      go_wp2_with fail
      refine (R.out _ tv.out).mono ?_
      rintro e0 w5 ⟨rfl, hc⟩
      replace g1 := Lib.hid (Trav.blk_b hc g1.out)
      replace tv := Lib.hid (tv.out.below hc)
      replace hb := Lib.hid (Buf.then_ hb.out hc)
      clear hc x1 x2 x3
      by_cases hlt : (k : Int) ≤ rr
      · obtain ⟨qa, ha, la⟩ := IL.out (k : Int) (by omega) hlt
        obtain ⟨qb, hb', lb⟩ := IH.out (k : Int) (by omega) hlt
        have BX := Lib.hid fun w h => B.out (k : Int) (k : Int) qa qb w h (by omega) (Int.le_refl _) (by omega) (by omega) ha hb'
        obtain ⟨p1, p2⟩ := Trav.sq_small (x := (k : Int)) (by omega) (by omega)
        have kk := IN.out (k : Int) qa qb (by omega) (by omega) ha hb' la lb
        replace BX := Lib.hid BX.out
        clear IN IL IH B
        generalize lo.getD qa 0 = A1 at *
        generalize hi.getD qb 0 = B1 at *
        have five : ((A1 ≤ tm ∧ tm ≤ B1 ∧ F ≤ (k : Int) ∧ (k : Int) ≤ T ∧ F < (k : Int)) ∨ (A1 ≤ tm ∧ tm ≤ B1 ∧ F ≤ (k : Int) ∧ (k : Int) ≤ T ∧ ¬ F < (k : Int))) ∨
          ((A1 ≤ tm ∧ ¬ tm ≤ B1 ∧ F ≤ (k : Int) ∧ ¬ (k : Int) ≤ T ∧ F < (k : Int)) ∨ (A1 ≤ tm ∧ ¬ tm ≤ B1 ∧ ¬ F ≤ (k : Int) ∧ (k : Int) ≤ T ∧ ¬ F < (k : Int))) ∨
          ((¬ A1 ≤ tm ∧ tm ≤ B1 ∧ F ≤ (k : Int) ∧ ¬ (k : Int) ≤ T ∧ F < (k : Int)) ∨ (¬ A1 ≤ tm ∧ tm ≤ B1 ∧ ¬ F ≤ (k : Int) ∧ (k : Int) ≤ T ∧ ¬ F < (k : Int))) ∨
          ((¬ A1 ≤ tm ∧ ¬ tm ≤ B1 ∧ F ≤ (k : Int) ∧ ¬ (k : Int) ≤ T ∧ F < (k : Int)) ∨ (¬ A1 ≤ tm ∧ ¬ tm ≤ B1 ∧ ¬ F ≤ (k : Int) ∧ (k : Int) ≤ T ∧ ¬ F < (k : Int))) := by
          by_cases u1 : A1 ≤ tm <;> by_cases u2 : tm ≤ B1 <;> simp only [u1, u2, true_and, false_and, and_true, and_false, not_true, not_false_eq_true, or_false, false_or, true_iff, false_iff] at kk ⊢ <;> omega
        clear kk
        obtain ⟨x1, x2, x3⟩ := Trav.tcells g1.out
        rcases five with (h | h) | (h | h) | (h | h) | (h | h)
        all_goals
          obtain ⟨h1, h2, h3, h4, h5⟩ := h
          first | have d1 : decide (A1 ≤ tm) = true := decide_eq_true h1 | have d1 : decide (A1 ≤ tm) = false := decide_eq_false h1
          first | have d2 : decide (tm ≤ B1) = true := decide_eq_true h2 | have d2 : decide (tm ≤ B1) = false := decide_eq_false h2
          first | have d3 : decide (F ≤ (k : Int)) = true := decide_eq_true h3 | have d3 : decide (F ≤ (k : Int)) = false := decide_eq_false h3
          first | have d4 : decide ((k : Int) ≤ T) = true := decide_eq_true h4 | have d4 : decide ((k : Int) ≤ T) = false := decide_eq_false h4
          first | have d5 : decide (F < (k : Int)) = true := decide_eq_true h5 | have d5 : decide (F < (k : Int)) = false := decide_eq_false h5
          have d6 : Hid (decide (F < ((k + 1 : Nat) : Int)) = decide (F ≤ (k : Int))) := Lib.hid (decide_eq_decide.2 (by omega))
          rw [d3] at d6
          rw [d5]
          clear h1 h2 h3 h4 h5
          go_wp2_with fail
          refine (BX.out _ tv.out).mono ?_
          rintro e0 w6 ⟨rfl, hc⟩
          replace g1 := Lib.hid (Trav.blk_b hc g1.out)
          replace tv := Lib.hid (tv.out.below hc)
          replace hb := Lib.hid (Buf.then_ hb.out hc)
          clear hc x1 x2 x3
          go_wp2
          go_roundw
          case rel => exact ⟨k + 1, by omega, by go_num, by rw [d6.out], g1, tv, hb⟩
          case measure => simp [intOf]; omega
      · obtain hk1 : (k : Int) = rr + 1 := by omega
        replace hk1 := Lib.hid hk1
        have d5 : decide (F < (k : Int)) = true := decide_eq_true (by omega)
        rw [d5]
        clear d5
        go_wp2_with (go_at_call 13; refine (Trav.awake_any _).mono ?_; rintro e0 w9 ⟨rfl, hc⟩; replace hb := Lib.hid (Buf.then_ hb.out hc); clear hc)
        go_ret
        exact ⟨rfl, hb.out⟩
  · replace IN := Lib.hid IN
    replace DC := Lib.hid DC
    go_wp2_with (go_at_call 9; with_reducible refine (M.out _).mono ?_; rintro e w1 ⟨rfl, rfl⟩)
    refine (DC.out _ tv.out).mono ?_
    rintro e0 w4 ⟨rfl, hc⟩
    replace g1 := Lib.hid (Trav.blk_b hc g1.out)
    replace tv := Lib.hid (tv.out.below hc)
    replace hb := Lib.hid (Buf.then_ hb.out hc)
    clear hc x1 x2 x3 DC M
    go_wp2_with fail
    go_loopw [10, 11] (fun a i wr => ∃ k : Nat, (k : Int) ≤ rr + 1 ∧ i = .int .i64 k ∧ a = .bool (false) ∧ Hid (wr.heap[w2.heap.size]? = some (.cells #[.int .i64 s, .slice (some ⟨b1, 0, none⟩) n c1, .slice (some ⟨b2, 0, none⟩) n c2] 26)) ∧ Hid (Trav.TV wr s b1 b2 n lo hi) ∧ Hid (Below w.heap.size w wr)) (fun _ i _ => (rr + 1 - intOf i).toNat)
    case atStart => exact ⟨0, by omega, rfl, rfl, g1, tv, hb⟩
    case round =>
      obtain ⟨k, hk, rfl, rfl, g1, tv, hb⟩ := hrel
      obtain ⟨x1, x2, x3⟩ := Trav.tcells g1.out
      go_wp2_with fail
      refine (R.out _ tv.out).mono ?_
      rintro e0 w5 ⟨rfl, hc⟩
      replace g1 := Lib.hid (Trav.blk_b hc g1.out)
      replace tv := Lib.hid (tv.out.below hc)
      replace hb := Lib.hid (Buf.then_ hb.out hc)
      clear hc x1 x2 x3
      by_cases hlt : (k : Int) ≤ rr
      · obtain ⟨qa, ha, la⟩ := IL.out (k : Int) (by omega) hlt
        obtain ⟨qb, hb', lb⟩ := IH.out (k : Int) (by omega) hlt
        have BX := Lib.hid fun w h => B.out (k : Int) (k : Int) qa qb w h (by omega) (Int.le_refl _) (by omega) (by omega) ha hb'
        obtain ⟨p1, p2⟩ := Trav.sq_small (x := (k : Int)) (by omega) (by omega)
        have kk := IN.out (k : Int) qa qb (by omega) (by omega) ha hb' la lb
        replace BX := Lib.hid BX.out
        clear IN IL IH B
        generalize lo.getD qa 0 = A1 at *
        generalize hi.getD qb 0 = B1 at *
        have three : (A1 ≤ tm ∧ ¬ tm ≤ B1) ∨ (¬ A1 ≤ tm ∧ tm ≤ B1) ∨ (¬ A1 ≤ tm ∧ ¬ tm ≤ B1) := by omega
        clear kk
        obtain ⟨x1, x2, x3⟩ := Trav.tcells g1.out
        rcases three with h | h | h
        all_goals
          obtain ⟨h1, h2⟩ := h
          first | have d1 : decide (A1 ≤ tm) = true := decide_eq_true h1 | have d1 : decide (A1 ≤ tm) = false := decide_eq_false h1
          first | have d2 : decide (tm ≤ B1) = true := decide_eq_true h2 | have d2 : decide (tm ≤ B1) = false := decide_eq_false h2
          clear h1 h2
          go_wp2_with fail
          refine (BX.out _ tv.out).mono ?_
          rintro e0 w6 ⟨rfl, hc⟩
          replace g1 := Lib.hid (Trav.blk_b hc g1.out)
          replace tv := Lib.hid (tv.out.below hc)
          replace hb := Lib.hid (Buf.then_ hb.out hc)
          clear hc x1 x2 x3
          go_wp2
          go_roundw
          case rel => exact ⟨k + 1, by omega, by go_num, rfl, g1, tv, hb⟩
          case measure => simp [intOf]; omega
      · obtain hk1 : (k : Int) = rr + 1 := by omega
        replace hk1 := Lib.hid hk1
        go_wp2_with (go_at_call 13; refine (Trav.awake_any _).mono ?_; rintro e0 w9 ⟨rfl, hc⟩; replace hb := Lib.hid (Buf.then_ hb.out hc); clear hc)
        go_ret
        exact ⟨rfl, hb.out⟩
end Laws
end Go.Proofs.Ytkbpeljpmgeniaa
