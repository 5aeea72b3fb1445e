/- The walk of UtcBack. -/
import Derived.Test.YtnoggdhljijhpaaUtcS
import Derived.Test.YtnoggdhljijhpaaUtcI
import Derived.Test.YtnoggdhljijhpaaUtcB
set_option linter.unusedVariables false
set_option linter.unusedSimpArgs false
namespace Go.Proofs.Ytnoggdhljijhpaa
open Go.RowKit Dice Ri
namespace Laws
open Utc
set_option maxHeartbeats 8000000 in
set_option maxRecDepth 100000 in
theorem utcBack_walk (a0 : Option Addr) (len0 cap0 : Nat) (z0 : List Int) (a1 : Int) (w : World) (w0 : Buf.IsRow .i64 w a0 len0 cap0 z0) (wf1 : (Lit.int .i64 a1).wf = true) :
    Calls Try.prog 6 #[.slice a0 len0 cap0, .int .i64 a1] w fun e w' => e = .returned (.bool true) ∧ Below w.heap.size w w' := by
  have Sn := Lib.hid Utc.sane_any
  obtain ⟨b0, b1⟩ := Ma.wf_i64 wf1
  clear wf1
  by_cases hs : len0 ≤ 500
  · have hd : decide ((len0 : Int) ≤ 500) = true := by simp; omega
    go_enter Try.func6, Try.ntmps6
    go_upto_region 4 with (first | (go_at_call 12; refine (light_any _ _ _ _).mono ?_; rintro e w1 ⟨rfl, hw⟩; replace hw := hw.symm; subst hw; rw [hd]) | (go_at_call 13; refine (roll_any a0 len0 cap0 z0 _ w0 hs).mono ?_; rintro e w2 ⟨rfl, hdi⟩))
    go_wp2_with fail
    refine (leaps_any hdi).mono ?_
    rintro e w3 ⟨⟨lv, L, rfl, OL, hv, l4⟩, hl⟩
    have dlt := hdi.lt
    replace OL := Lib.hid OL
    replace hv := Lib.hid hv
    have DI := Lib.hid hl.di
    clear hl
    obtain ⟨ad, c, rfl, hlc, hcc⟩ := own_form OL.out
    obtain ⟨n, hn⟩ : ∃ n, n = L.length := ⟨_, rfl⟩
    rw [← hn] at OL l4 hlc ⊢
    replace hn := Lib.hid hn
    go_upto_region 5 with fail
    go_wp2_with (go_at_call 20; refine (mod_any _ _ _ b0 b1 (by omega) (by omega)).mono ?_; rintro e w' ⟨⟨r, rfl, r0, r9⟩, hw⟩; subst hw)
    refine (times_all DI.out dlt OL.out hv.out (by rw [← hn.out]; exact l4) r (by omega) (by omega)).mono ?_
    rintro e w4 ⟨⟨tv, T, rfl, OT, t10⟩, hl⟩
    have RL := Lib.hid (own_ro (own_grown OL.out hl.far dlt))
    obtain ⟨td, tc, rfl, htc, _⟩ := own_form OT
    have RT := Lib.hid (own_ro OT)
    obtain ⟨m, hm⟩ : ∃ m, m = T.length := ⟨_, rfl⟩
    rw [← hm] at RT t10 htc ⊢
    replace hm := Lib.hid hm
    replace DI := Lib.hid hl.di.bel
    clear OL OT hl
    go_wp2_with fail
    go_loopw [31] (fun s31 wr => ∃ k : Nat, k ≤ m ∧ s31 = .int .i64 k ∧ Hid (Below w4.heap.size w4 wr)) (fun s31 _ => (m - intOf s31).toNat)
    case atStart => exact ⟨0, by omega, rfl, Lib.hid (Below.refl _ _)⟩
    case round =>
      obtain ⟨k, hk, rfl, BC⟩ := hrel
      by_cases hlt : k < m
      · have hlt' : (k : Int) < m := by omega
        obtain ⟨g, o, rfl⟩ := RT.out.form (by omega)
        have ck := (RT.out.below BC.out).cell k hlt
        have RL1 := Lib.hid (RL.out.below BC.out)
        generalize T.getD k 0 = x at *
        by_cases hx : x < 0 ∨ 9007199254740992 < x
        · have NO := Lib.hid fun w => in_no x 0 9007199254740992 w hx
          clear hx
          go_wp2_with (go_at_call 21; with_reducible refine (NO.out _).mono ?_; rintro e w' ⟨rfl, hw⟩; replace hw := hw.symm; subst hw)
          exact ⟨⟨k + 1, by omega, by go_num, BC⟩, by simp [intOf]; omega⟩
        · have x0 : 0 ≤ x := by omega
          have x9 : x ≤ 9007199254740992 := by omega
          have YES := Lib.hid fun w => in_yes x 0 9007199254740992 w x0 x9
          clear hx
          obtain ⟨y, mo, d, h, i, s, u, hc, hf, y0, y9, m9, d9, h9', i9, s9, u9⟩ := civ_form hv.out x x0 x9
          have T1 := Lib.hid (toCivil_any RL1.out hv.out x x0 x9)
          have T2 := Lib.hid fun wx (hb : Below wr.heap.size wr wx) => back_any (RL1.out.below hb) hv.out x x0 x9
          have T3 := Lib.hid fun wx (hb : Below wr.heap.size wr wx) => format_any (RL1.out.below hb) hv.out x x0 x9
          have T4 := Lib.hid fun wx (hb : Below wr.heap.size wr wx) => parse_any (RL1.out.below hb) hv.out x x0 x9
          have SZ : (⟨⟨fm L x⟩⟩ : ByteArray).size = 27 := fm_len L x
          rw [hc] at T1 T2
          generalize (⟨⟨fm L x⟩⟩ : ByteArray) = tx at *
          clear hc hf y0 y9 m9 d9 h9' i9 s9 u9
          go_wp2_with (go_at_call 21; with_reducible refine (YES.out _).mono ?_; rintro e w' ⟨rfl, hw⟩; replace hw := hw.symm; subst hw)
          refine T1.out.mono ?_
          rintro e w1 ⟨rfl, b1⟩
          replace b1 := Lib.hid b1
          clear T1 ck
          go_upto_region 10 with (first | ((with_reducible refine Mid.str 39 (.tmp 9) (.tmp 42) w1.heap.size 39 #[.int .i64 0, .int .i64 0, .int .i64 0, .int .i64 0, .int .i64 0, .int .i64 0, .int .i64 0] #[.int .i64 (y : Int), .int .i64 (mo : Int), .int .i64 (d : Int), .int .i64 (h : Int), .int .i64 (i : Int), .int .i64 (s : Int), .int .i64 (u : Int)] (heap_alloc_new w1 _) ?_ ?_ ?_ ?_ ?_ ?_ ?_ ?_); (· rfl); (· rfl); (· first | rfl | simp [Act.eval]); (· first | rfl | simp [Act.eval]); (· kernel_rfl); (· rfl); (· simp [Value.oneCell'])) | fail)
          obtain ⟨w2, hw2⟩ : ∃ w2, w2 = (w1.alloc (.cells #[.int .i64 0, .int .i64 0, .int .i64 0, .int .i64 0, .int .i64 0, .int .i64 0, .int .i64 0] 39)).setRow w1.heap.size #[.int .i64 (y : Int), .int .i64 (mo : Int), .int .i64 (d : Int), .int .i64 (h : Int), .int .i64 (i : Int), .int .i64 (s : Int), .int .i64 (u : Int)] := ⟨_, rfl⟩
          rw [← hw2]
          have P0 : Hid (w2.heap[w1.heap.size]? = some (.cells #[.int .i64 (y : Int), .int .i64 (mo : Int), .int .i64 (d : Int), .int .i64 (h : Int), .int .i64 (i : Int), .int .i64 (s : Int), .int .i64 (u : Int)] 39 (0, 0))) := Lib.hid (by rw [hw2]; exact setRow_heap _ _ _ _ _ _ (heap_alloc_new w1 _))
          have B2 : Hid (Below wr.heap.size wr w2) := Lib.hid (by rw [hw2]; exact Mid.below_row (b1.out.alloc b1.out.size _) _ _ b1.out.size)
          generalize w1.heap.size = z at *
          replace hw2 := Lib.hid hw2
          go_wp2_with (first | ((with_reducible refine Mid.ldr 39 (.tmp 9) z 39 #[.int .i64 (y : Int), .int .i64 (mo : Int), .int .i64 (d : Int), .int .i64 (h : Int), .int .i64 (i : Int), .int .i64 (s : Int), .int .i64 (u : Int)] P0.out ?_ ?_ ?_ ?_ ?_ ?_); (· rfl); (· rfl); (· first | rfl | simp [Act.eval]); (· exact ⟨_, rfl, rfl⟩); (· kernel_rfl)) | fail)
          refine (T2.out _ B2.out).mono ?_
          rintro e w3 ⟨rfl, b3⟩
          replace B2 := Lib.hid (Buf.then_ B2.out b3)
          clear b3 T2 P0
          go_wp2_with fail
          refine (T3.out _ B2.out).mono ?_
          rintro e w5 ⟨rfl, b3⟩
          replace B2 := Lib.hid (Buf.then_ B2.out b3)
          clear b3 T3
          go_wp2_with fail
          refine (T4.out _ B2.out).mono ?_
          rintro e w6 ⟨rfl, b3⟩
          replace B2 := Lib.hid (Buf.then_ BC.out (Buf.then_ B2.out b3))
          clear b3 T4
          go_wp2_with fail
          exact ⟨⟨k + 1, by omega, by go_num, B2⟩, by simp [intOf]; omega⟩
      · obtain rfl : k = m := by omega
        go_wp2_with (go_at_call 11; refine (Sn.out _).mono ?_; rintro e w2 ⟨rfl, hb⟩)
        go_ret
        exact ⟨rfl, Buf.then_ DI.out (Buf.then_ BC.out hb)⟩
  · have hd : decide ((len0 : Int) ≤ 500) = false := by simp; omega
    go_enter Try.func6, Try.ntmps6
    go_wp2_with (first | (go_at_call 12; refine (light_any _ _ _ _).mono ?_; rintro e w1 ⟨rfl, rfl⟩; rw [hd]) | (go_at_call 11; refine (Sn.out _).mono ?_; rintro e w2 ⟨rfl, hb⟩))
    go_ret
    exact ⟨rfl, hb⟩
end Laws
end Go.Proofs.Ytnoggdhljijhpaa
