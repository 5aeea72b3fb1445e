/- The walk of ClockTrue. -/
import Derived.Test.YthboepgobimoaaaClockO
set_option linter.unusedVariables false
namespace Go.Proofs.Ythboepgobimoaaa
open Go.RowKit Wi Dice
namespace Laws
open Clock
set_option maxHeartbeats 4000000 in
set_option maxRecDepth 100000 in
theorem clockTrue_walk (a0 : Option Addr) (len0 cap0 : Nat) (z0 : List Int) (a1 : Int) (w : World) (w0 : Buf.IsRow .i64 w a0 len0 cap0 z0) (w1 : (Lit.int .u16 a1).wf = true) :
    Calls Try.prog 3 #[.slice a0 len0 cap0, .int .u16 a1] w fun e w' => e = .returned (.bool true) ∧ Below w.heap.size w w' := by
  obtain ⟨b0, b1⟩ := Ma.wf_u16 w1
  clear w1
  by_cases hs : len0 ≤ 500
  · have hd : decide ((len0 : Int) ≤ 500) = true := by simp; omega
    go_enter Try.func3, Try.ntmps3
    go_wp2_with (first | (go_at_call 6; refine (light_any _ _ _ _).mono ?_; rintro e w1 ⟨rfl, rfl⟩; rw [hd]) | (go_at_call 8; refine (roll_any a0 len0 cap0 z0 _ w0 hs).mono ?_; rintro e w2 ⟨rfl, hdi⟩))
    refine (anchors_any false hdi).mono ?_
    rintro e w3 ⟨⟨v, x, P, tag, at_, rfl, x0, x1, G, ho⟩, hl⟩
    have W3 := Lib.hid hl.di.bel
    have ok := G.ok
    have tr := Lib.hid (G.trs rfl)
    have n5 := G.n5
    clear hl hdi G
    by_cases hn : P.length = 0
    · rw [hn] at ho
      obtain ⟨a, c, rfl⟩ := own_form0 ho
      clear ho ok tr hn
      go_wp2_with fail
      refine (correct_nil a c x 5 x0 (by omega) (by omega) (by omega) _).mono ?_
      rintro e w4 ⟨rfl, hb⟩
      have W4 := Lib.hid (Buf.then_ W3.out hb)
      clear hb
      go_wp2_with (go_at_call 7; refine (Clock.sane_any _).mono ?_; rintro e w9 ⟨rfl, hb⟩)
      go_ret
      exact ⟨rfl, Buf.then_ W4.out hb⟩
    · obtain ⟨g, c, rfl, hc, hm⟩ := own_form ho (by omega)
      have A := Lib.hid (as_of ho rfl)
      have C := Lib.hid fun w (a : As w g P.length (tf P) (lf P) (hf P)) => correct_any ok x (a1 * 2) x0 (by omega) (by omega) (by omega) g c w (by omega) hc hm a
      have J := Lib.hid fun w (a : As w g P.length (tf P) (lf P) (hf P)) => jumps_any ok x x0 (by omega) g c w (by omega) a
      have hjl := Lib.hid (tr_jl x ok tr.out x0 (by omega) P.length (Nat.le_refl _))
      obtain ⟨q1, q2⟩ := co_true x (a1 * 2) ok tr.out x0 (by omega) (by omega) (by omega)
      obtain ⟨q3, q4, q5, q6⟩ := co_bd ok x (a1 * 2) x0 (by omega) (by omega) (by omega) (by omega)
      generalize coL x (tf P) (lf P) (hf P) (a1 * 2) P.length = lo at *
      generalize coH x (tf P) (lf P) (hf P) (a1 * 2) P.length = hi at *
      have hm' := Lib.hid hm
      have hn0 : ((P.length : Int) == 0) = false := by rw [beq_eq_false_iff_ne]; omega
      clear ho ok tr hm hn
      go_wp2_with fail
      refine (C.out _ A.out).mono ?_
      rintro e w4 ⟨he, hb⟩
      obtain rfl : e = .returned (.tuple #[.int .i64 ((lo + hi) / 2), .int .i64 (hi - (lo + hi) / 2), .int .i64 0]) := by
        rcases he with ⟨_, h⟩ | ⟨h, _⟩
        · exact h
        · omega
      replace A := Lib.hid (A.out.below hb)
      have W4 := Lib.hid (Buf.then_ W3.out hb)
      clear hb he
      go_wp2_with fail
      refine (J.out _ A.out).mono ?_
      rintro e w5 ⟨⟨u, rfl, hu⟩, hb⟩
      rw [hjl.out] at hu
      have W5 := Lib.hid (Buf.then_ W4.out hb)
      obtain ⟨ja, jc, rfl⟩ : ∃ a c, u = .slice a 0 c := by
        rcases hu with ⟨h, _⟩ | ⟨p, q, h, _⟩
        · exact ⟨_, _, h⟩
        · exact ⟨_, _, h⟩
      have d1 : decide (0 ≤ hi - (lo + hi) / 2) = true := by simp; omega
      have d2 : decide ((lo + hi) / 2 - (hi - (lo + hi) / 2) - 1 ≤ 1000000000000 + a1 * 2 - 1000) = true := by simp; omega
      have d3 : decide (1000000000000 + a1 * 2 - 1000 ≤ (lo + hi) / 2 + (hi - (lo + hi) / 2)) = true := by simp; omega
      clear hb hu C J
      go_wp2_with (go_at_call 7; refine (Clock.sane_any _).mono ?_; rintro e w9 ⟨rfl, hb⟩)
      go_ret
      exact ⟨rfl, Buf.then_ W5.out hb⟩
  · have hd : decide ((len0 : Int) ≤ 500) = false := by simp; omega
    go_enter Try.func3, Try.ntmps3
    go_wp2_with (first | (go_at_call 6; refine (light_any _ _ _ _).mono ?_; rintro e w1 ⟨rfl, rfl⟩; rw [hd]) | (go_at_call 7; refine (Clock.sane_any _).mono ?_; rintro e w2 ⟨rfl, hb⟩))
    go_ret
    exact ⟨rfl, hb⟩
end Laws
end Go.Proofs.Ythboepgobimoaaa
