/- The walk of ClockNarrows. -/
import Derived.Test.YthboepgobimoaaaClockO
set_option linter.unusedVariables false
namespace Go.Proofs.Ythboepgobimoaaa
open Go.RowKit Wi Dice
namespace Laws
open Clock
set_option maxHeartbeats 4000000 in
set_option maxRecDepth 100000 in
theorem clockNarrows_walk (a0 : Option Addr) (len0 cap0 : Nat) (z0 : List Int) (a1 : Int) (a2 : Int) (w : World) (w0 : Buf.IsRow .i64 w a0 len0 cap0 z0) (w1 : (Lit.int .u16 a1).wf = true) (w2 : (Lit.int .u16 a2).wf = true) :
    Calls Try.prog 4 #[.slice a0 len0 cap0, .int .u16 a1, .int .u16 a2] w fun e w' => e = .returned (.bool true) ∧ Below w.heap.size w w' := by
  obtain ⟨b0, b1⟩ := Ma.wf_u16 w1
  obtain ⟨c0, c1⟩ := Ma.wf_u16 w2
  clear w1 w2
  by_cases hs : len0 ≤ 500
  · have hd : decide ((len0 : Int) ≤ 500) = true := by simp; omega
    go_enter Try.func4, Try.ntmps4
    go_wp2_with (first | (go_at_call 6; refine (light_any _ _ _ _).mono ?_; rintro e w1 ⟨rfl, rfl⟩; rw [hd]) | (go_at_call 8; refine (roll_any a0 len0 cap0 z0 _ w0 hs).mono ?_; rintro e w2 ⟨rfl, hdi⟩))
    refine (anchors_any false hdi).mono ?_
    rintro e w3 ⟨⟨v, x, P, tag, at_, rfl, x0, x1, G, ho⟩, hl⟩
    have W3 := Lib.hid hl.di.bel
    have ok := G.ok
    have tr := Lib.hid (G.trs rfl)
    have n5 := G.n5
    clear hl hdi G
    by_cases hn : P.length < 2
    · obtain ⟨a, n, c, rfl, rfl⟩ : ∃ a n c, v = .slice a n c ∧ P.length = n := by
        rcases ho.2 with ⟨h, h'⟩ | ⟨g, cap, cur, h, _⟩
        · exact ⟨_, _, _, h, h'⟩
        · exact ⟨_, _, _, h, rfl⟩
      have hn' : (P.length : Int) < 2 := by omega
      clear ho ok tr hn
      go_wp2_with (go_at_call 7; refine (Clock.sane_any _).mono ?_; rintro e w9 ⟨rfl, hb⟩)
      go_ret
      exact ⟨rfl, Buf.then_ W3.out hb⟩
    · obtain ⟨g, c, rfl, hc, hm⟩ := own_form ho (by omega)
      have A := Lib.hid (as_of ho rfl)
      clear ho
      generalize P.length = N at *
      obtain ⟨m, rfl⟩ : ∃ m, N = m + 1 := ⟨N - 1, by omega⟩
      have C := Lib.hid fun w (a : As w g (m + 1) (tf P) (lf P) (hf P)) => correct_any ok x (a1 * 2) x0 (by omega) (by omega) (by omega) g c w (by omega) hc hm a
      have C2 := Lib.hid fun w (a : As w g m (tf P) (lf P) (hf P)) => correct_any ok.pre x (a1 * 2) x0 (by omega) (by omega) (by omega) g c w (by omega) (by omega) hm a
      have C3 := Lib.hid fun w (a : As w g (m + 1) (tf P) (lf P) (hf P)) => correct_any ok (x + a2) (a1 * 2) (by omega) (by omega) (by omega) (by omega) g c w (by omega) hc hm a
      obtain ⟨q1, q2⟩ := co_true x (a1 * 2) ok tr.out x0 (by omega) (by omega) (by omega)
      obtain ⟨q3, q4, q5, q6⟩ := co_bd ok x (a1 * 2) x0 (by omega) (by omega) (by omega) (by omega)
      obtain ⟨r1, r2⟩ := co_pre x (a1 * 2) ok tr.out x0 (by omega)
      obtain ⟨r3, r4, r5, r6⟩ := co_bd ok.pre x (a1 * 2) x0 (by omega) (by omega) (by omega) (by omega)
      obtain ⟨s1, s2⟩ := co_drift x (x + a2) (a1 * 2) ok tr.out x0 (by omega) (by omega)
      obtain ⟨s3, s4, s5, s6⟩ := co_bd ok (x + a2) (a1 * 2) (by omega) (by omega) (by omega) (by omega) (by omega)
      generalize coL x (tf P) (lf P) (hf P) (a1 * 2) (m + 1) = lo at *
      generalize coH x (tf P) (lf P) (hf P) (a1 * 2) (m + 1) = hi at *
      generalize coL x (tf P) (lf P) (hf P) (a1 * 2) m = lo2 at *
      generalize coH x (tf P) (lf P) (hf P) (a1 * 2) m = hi2 at *
      generalize coL (x + a2) (tf P) (lf P) (hf P) (a1 * 2) (m + 1) = lo3 at *
      generalize coH (x + a2) (tf P) (lf P) (hf P) (a1 * 2) (m + 1) = hi3 at *
      have hn2 : ¬ (m : Int) + 1 < 2 := by omega
      have d1 : decide (hi - (lo + hi) / 2 ≤ hi2 - (lo2 + hi2) / 2) = true := by simp; omega
      have d2 : decide (hi - (lo + hi) / 2 ≤ hi3 - (lo3 + hi3) / 2) = true := by simp; omega
      have hcm : Hid (c ≤ maxLen) := Lib.hid hm
      clear ok tr hm hn
      go_wp2_with fail
      refine (C.out _ A.out).mono ?_
      rintro e w4 ⟨he, hb⟩
      obtain rfl : e = .returned (.tuple #[.int .i64 ((lo + hi) / 2), .int .i64 (hi - (lo + hi) / 2), .int .i64 0]) := by
        rcases he with ⟨_, h⟩ | ⟨h, _⟩
        · exact h
        · omega
      replace A := Lib.hid (A.out.below hb)
      have W4 := Lib.hid (Buf.then_ W3.out hb)
      clear hb he
      go_wp2_with fail
      refine (C2.out _ (fun k hk => A.out k (by omega))).mono ?_
      rintro e w5 ⟨he, hb⟩
      obtain rfl : e = .returned (.tuple #[.int .i64 ((lo2 + hi2) / 2), .int .i64 (hi2 - (lo2 + hi2) / 2), .int .i64 0]) := by
        rcases he with ⟨_, h⟩ | ⟨h, _⟩
        · exact h
        · omega
      replace A := Lib.hid (A.out.below hb)
      have W5 := Lib.hid (Buf.then_ W4.out hb)
      clear hb he
      go_wp2_with fail
      refine (C3.out _ A.out).mono ?_
      rintro e w6 ⟨he, hb⟩
      obtain rfl : e = .returned (.tuple #[.int .i64 ((lo3 + hi3) / 2), .int .i64 (hi3 - (lo3 + hi3) / 2), .int .i64 0]) := by
        rcases he with ⟨_, h⟩ | ⟨h, _⟩
        · exact h
        · omega
      have W6 := Lib.hid (Buf.then_ W5.out hb)
      clear hb he C C2 C3
      go_wp2_with (go_at_call 7; refine (Clock.sane_any _).mono ?_; rintro e w9 ⟨rfl, hb⟩)
      go_ret
      exact ⟨rfl, Buf.then_ W6.out hb⟩
  · have hd : decide ((len0 : Int) ≤ 500) = false := by simp; omega
    go_enter Try.func4, Try.ntmps4
    go_wp2_with (first | (go_at_call 6; refine (light_any _ _ _ _).mono ?_; rintro e w1 ⟨rfl, rfl⟩; rw [hd]) | (go_at_call 7; refine (Clock.sane_any _).mono ?_; rintro e w2 ⟨rfl, hb⟩))
    go_ret
    exact ⟨rfl, hb⟩
end Laws
end Go.Proofs.Ythboepgobimoaaa
