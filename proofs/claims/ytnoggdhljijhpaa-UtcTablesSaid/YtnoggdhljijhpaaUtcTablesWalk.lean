/- The walk of UtcTables. -/
import Derived.Test.YtnoggdhljijhpaaUtcS
import Derived.Test.YtnoggdhljijhpaaUtcK
import Derived.Test.YtnoggdhljijhpaaUtcX
set_option linter.unusedVariables false
set_option linter.unusedSimpArgs false
namespace Go.Proofs.Ytnoggdhljijhpaa
open Go.RowKit Dice Ri
namespace Laws
open Utc
set_option maxHeartbeats 8000000 in
set_option maxRecDepth 100000 in
theorem utcTables_walk (a0 : Option Addr) (len0 cap0 : Nat) (z0 : List Int) (a1 : Int) (w : World) (w0 : Buf.IsRow .i64 w a0 len0 cap0 z0) (wf1 : (Lit.int .u32 a1).wf = true) :
    Calls Try.prog 4 #[.slice a0 len0 cap0, .int .u32 a1] w fun e w' => e = .returned (.bool true) ∧ Below w.heap.size w w' := by
  have Sn := Lib.hid Utc.sane_any
  obtain ⟨b0, b1⟩ : 0 ≤ a1 ∧ a1 ≤ 4294967295 := Ma.wf_u32 wf1
  clear wf1
  by_cases hs : len0 ≤ 500
  · have hd : decide ((len0 : Int) ≤ 500) = true := by simp; omega
    go_enter Try.func4, Try.ntmps4
    go_upto_region 4 with (first | (go_at_call 12; refine (light_any _ _ _ _).mono ?_; rintro e w1 ⟨rfl, hw⟩; replace hw := hw.symm; subst hw; rw [hd]) | (go_at_call 13; refine (roll_any a0 len0 cap0 z0 _ w0 hs).mono ?_; rintro e w2 ⟨rfl, hdi⟩))
    go_wp2_with fail
    refine (leaps_any hdi).mono ?_
    rintro e w3 ⟨⟨lv, L, rfl, OL, hv, l4, _⟩, hl⟩
    have dlt := hdi.lt
    replace OL := Lib.hid OL
    replace hv := Lib.hid hv
    have DI := Lib.hid hl.di
    clear hl
    obtain ⟨ad, c, rfl, hlc, hcc⟩ := own_form OL.out
    obtain ⟨n, hn⟩ : ∃ n, n = L.length := ⟨_, rfl⟩
    rw [← hn] at OL l4 hlc ⊢
    replace hn := Lib.hid hn
    by_cases h0 : n = 0
    · have hn0 : ((n : Int) == 0) = true := by simp [h0]
      replace h0 := Lib.hid h0
      replace DI := Lib.hid DI.out.bel
      go_wp2_with (go_at_call 11; refine (Sn.out _).mono ?_; rintro e w2 ⟨rfl, hb⟩)
      go_ret
      exact ⟨rfl, Buf.then_ DI.out hb⟩
    · have hn0 : ((n : Int) == 0) = false := by simp [h0]
      have n1 : 1 ≤ n := by omega
      clear h0
      go_wp2_with fail
      refine (next_any (n : Int) DI.out (by omega) (by omega)).mono ?_
      rintro e w4 ⟨⟨kv, rfl, k0, k9⟩, hl⟩
      obtain ⟨k, rfl⟩ := Int.eq_ofNat_of_zero_le k0
      have hk : k < n := by omega
      have RL := Lib.hid (own_ro (own_grown OL.out hl.far dlt))
      replace DI := Lib.hid hl.di.bel
      clear OL hl k0
      obtain ⟨g, o, rfl⟩ := RL.out.form (by omega)
      have RS := Lib.hid (RL.out.take k (by omega))
      have hvs := Lib.hid (vt_take hv.out k (by rw [← hn.out]; omega))
      have hkc : (k : Int) ≤ c := by omega
      obtain ⟨x, hx⟩ : ∃ x, x = a1 * 50000 := ⟨_, rfl⟩
      have x0 : 0 ≤ x := by omega
      have x9 : x ≤ 214748364750000 := by omega
      have hx' := hx.symm
      clear hx
      obtain ⟨q, hq⟩ : ∃ q, x / 1000000 = q := ⟨_, rfl⟩
      have q0 : 0 ≤ q := by omega
      have q9 : q ≤ 9007199254 := by omega
      have ck := Lib.hid fun wx (hb : Below w4.heap.size w4 wx) => (RL.out.below hb).cell k hk
      have BC := Lib.hid (Below.refl w4.heap.size w4)
      obtain ⟨y, mo, d, h, i, s, u, hc, hf, y0, y9, m9, d9, h9', i9, s9, u9⟩ := civ_form hv.out x (by omega) (by omega)
      have T1 := Lib.hid fun wx (hb : Below w4.heap.size w4 wx) => toCivil_any (RL.out.below hb) hv.out x (by omega) (by omega)
      have T2 := Lib.hid fun wx (hb : Below w4.heap.size w4 wx) => toCivil_any (RS.out.below hb) hvs.out x (by omega) (by omega)
      have F1 := Lib.hid fun wx (hb : Below w4.heap.size w4 wx) => offset_any (RL.out.below hb) hv.out x (by omega) (by omega)
      have F2 := Lib.hid fun wx (hb : Below w4.heap.size w4 wx) => offset_any (RS.out.below hb) hvs.out x (by omega) (by omega)
      rw [hc] at T1
      rw [hq] at hc T2 F1 F2
      have hkL : k < L.length := by rw [← hn.out]; exact hk
      have vb := hv.out.val k hkL
      by_cases hlt : q < L.getD k 0
      · obtain ⟨e1, e2, e3, e4⟩ := cut_same hv.out k hkL q hlt
        rw [e3, e4, hc] at T2
        clear e1 e2 e3 e4 F1 F2 hc hf y0 y9 m9 d9 h9' i9 s9 u9 hkL
        generalize L.getD k 0 = lk at *
        obtain ⟨lk9, _, lk0⟩ := vb
        have hq' := hq
        go_wp2_with fail
        refine (T1.out _ BC.out).mono ?_
        rintro e w5 ⟨rfl, bw5⟩
        replace BC := Lib.hid (Buf.then_ BC.out bw5)
        clear bw5
        go_upto_region 11 with (first | ((with_reducible refine Mid.str 39 (.tmp 10) (.tmp 43) w5.heap.size 39 #[.int .i64 0, .int .i64 0, .int .i64 0, .int .i64 0, .int .i64 0, .int .i64 0, .int .i64 0] #[.int .i64 (y : Int), .int .i64 (mo : Int), .int .i64 (d : Int), .int .i64 (h : Int), .int .i64 (i : Int), .int .i64 (s : Int), .int .i64 (u : Int)] (heap_alloc_new w5 _) ?_ ?_ ?_ ?_ ?_ ?_ ?_ ?_); (· rfl); (· rfl); (· first | rfl | simp [Act.eval]); (· first | rfl | simp [Act.eval]); (· kernel_rfl); (· rfl); (· simp [Value.oneCell'])) | fail)
        obtain ⟨w6, hw6⟩ : ∃ w6, w6 = (w5.alloc (.cells #[.int .i64 0, .int .i64 0, .int .i64 0, .int .i64 0, .int .i64 0, .int .i64 0, .int .i64 0] 39)).setRow w5.heap.size #[.int .i64 (y : Int), .int .i64 (mo : Int), .int .i64 (d : Int), .int .i64 (h : Int), .int .i64 (i : Int), .int .i64 (s : Int), .int .i64 (u : Int)] := ⟨_, rfl⟩
        rw [← hw6]
        have PA : Hid (w6.heap[w5.heap.size]? = some (.cells #[.int .i64 (y : Int), .int .i64 (mo : Int), .int .i64 (d : Int), .int .i64 (h : Int), .int .i64 (i : Int), .int .i64 (s : Int), .int .i64 (u : Int)] 39 (0, 0))) := Lib.hid (by rw [hw6]; exact setRow_heap _ _ _ _ _ _ (heap_alloc_new w5 _))
        have bw6 : Hid (Below w5.heap.size w5 w6) := Lib.hid (by rw [hw6]; exact Mid.below_row (Dice.new_block _) _ _ (Nat.le_refl _))
        replace BC := Lib.hid (Buf.then_ BC.out bw6.out)
        clear bw6
        generalize w5.heap.size = zA at *
        replace hw6 := Lib.hid hw6
        go_wp2_with fail
        refine (T2.out _ BC.out).mono ?_
        rintro e w7 ⟨rfl, bw7⟩
        replace PA := Lib.hid ((bw7.block _ (Array.getElem?_eq_some_iff.1 PA.out).1).trans PA.out)
        replace BC := Lib.hid (Buf.then_ BC.out bw7)
        clear bw7
        go_upto_region 12 with (first | ((with_reducible refine Mid.str 39 (.tmp 12) (.tmp 49) w7.heap.size 39 #[.int .i64 0, .int .i64 0, .int .i64 0, .int .i64 0, .int .i64 0, .int .i64 0, .int .i64 0] #[.int .i64 (y : Int), .int .i64 (mo : Int), .int .i64 (d : Int), .int .i64 (h : Int), .int .i64 (i : Int), .int .i64 (s : Int), .int .i64 (u : Int)] (heap_alloc_new w7 _) ?_ ?_ ?_ ?_ ?_ ?_ ?_ ?_); (· rfl); (· rfl); (· first | rfl | simp [Act.eval]); (· first | rfl | simp [Act.eval]); (· kernel_rfl); (· rfl); (· simp [Value.oneCell'])) | fail)
        obtain ⟨w8, hw8⟩ : ∃ w8, w8 = (w7.alloc (.cells #[.int .i64 0, .int .i64 0, .int .i64 0, .int .i64 0, .int .i64 0, .int .i64 0, .int .i64 0] 39)).setRow w7.heap.size #[.int .i64 (y : Int), .int .i64 (mo : Int), .int .i64 (d : Int), .int .i64 (h : Int), .int .i64 (i : Int), .int .i64 (s : Int), .int .i64 (u : Int)] := ⟨_, rfl⟩
        rw [← hw8]
        have PB : Hid (w8.heap[w7.heap.size]? = some (.cells #[.int .i64 (y : Int), .int .i64 (mo : Int), .int .i64 (d : Int), .int .i64 (h : Int), .int .i64 (i : Int), .int .i64 (s : Int), .int .i64 (u : Int)] 39 (0, 0))) := Lib.hid (by rw [hw8]; exact setRow_heap _ _ _ _ _ _ (heap_alloc_new w7 _))
        have bw8 : Hid (Below w7.heap.size w7 w8) := Lib.hid (by rw [hw8]; exact Mid.below_row (Dice.new_block _) _ _ (Nat.le_refl _))
        replace BC := Lib.hid (Buf.then_ BC.out bw8.out)
        replace PA := Lib.hid ((bw8.out.block _ (Array.getElem?_eq_some_iff.1 PA.out).1).trans PA.out)
        clear bw8
        generalize w7.heap.size = zB at *
        replace hw8 := Lib.hid hw8
        have ck8 := ck.out _ BC.out
        clear ck T1 T2
        go_wp2_with (first | ((with_reducible refine Mid.ldrg 39 (.tmp 10) zA 39 #[.int .i64 (y : Int), .int .i64 (mo : Int), .int .i64 (d : Int), .int .i64 (h : Int), .int .i64 (i : Int), .int .i64 (s : Int), .int .i64 (u : Int)] PA.out ?_ ?_ ?_ ?_ ?_ ?_); (· rfl); (· rfl); (· first | rfl | simp [Act.eval]); (· exact ⟨_, rfl, rfl⟩); (· kernel_rfl)) | ((with_reducible refine Mid.ldrg 39 (.tmp 12) zB 39 #[.int .i64 (y : Int), .int .i64 (mo : Int), .int .i64 (d : Int), .int .i64 (h : Int), .int .i64 (i : Int), .int .i64 (s : Int), .int .i64 (u : Int)] PB.out ?_ ?_ ?_ ?_ ?_ ?_); (· rfl); (· rfl); (· first | rfl | simp [Act.eval]); (· exact ⟨_, rfl, rfl⟩); (· kernel_rfl)) | (go_at_call 11; refine (Sn.out _).mono ?_; rintro e wz ⟨rfl, hb⟩) | fail)
        go_ret
        exact ⟨rfl, Buf.then_ DI.out (Buf.then_ BC.out hb)⟩
      · obtain ⟨e1, e2, e3⟩ := cut_late hv.out k hkL q (by omega)
        obtain ⟨y2, mo2, d2, h2, i2, s2, u2, hc2, _⟩ := civ_form hvs.out x (by omega) (by omega)
        rw [hq] at hc2
        rw [hc2] at T2
        rw [e1] at F2
        obtain ⟨f, hf'⟩ : ∃ f, f = off L q := ⟨_, rfl⟩
        rw [← hf'] at e2 e3 F1
        obtain ⟨_, _, _, f8, f9⟩ := cb_in hv.out q q0 q9
        rw [← hf'] at f8 f9
        have hs' : cs L q = (s : Int) := by
          have := hc
          unfold civ at this
          injection this with this
          have h5 := congrArg (fun a : Array Value => a[5]?) this
          simp at h5
          exact h5
        have csd : cs L q = if isL L q then 60 else cb L q % 86400 % 60 := rfl
        have lkq : ¬ (q < L.getD k 0) := hlt
        cases hi : isL L q with
        | true =>
          have s60 : s = 60 := by rw [hi] at csd; simp at csd; omega
          subst s60
          clear e3 hc hc2 hf y0 y9 m9 d9 h9' i9 s9 u9 hkL csd hs' hi hlt
          generalize L.getD k 0 = lk at *
          obtain ⟨lk9, _, lk0⟩ := vb
          replace hf' := Lib.hid hf'
          have mm : (0 : Int) ≤ (f : Int) - k := by omega
          go_wp2_with fail
          refine (T1.out _ BC.out).mono ?_
          rintro e w5 ⟨rfl, bw5⟩
          replace BC := Lib.hid (Buf.then_ BC.out bw5)
          clear bw5
          go_upto_region 11 with (first | ((with_reducible refine Mid.str 39 (.tmp 10) (.tmp 43) w5.heap.size 39 #[.int .i64 0, .int .i64 0, .int .i64 0, .int .i64 0, .int .i64 0, .int .i64 0, .int .i64 0] #[.int .i64 (y : Int), .int .i64 (mo : Int), .int .i64 (d : Int), .int .i64 (h : Int), .int .i64 (i : Int), .int .i64 60, .int .i64 (u : Int)] (heap_alloc_new w5 _) ?_ ?_ ?_ ?_ ?_ ?_ ?_ ?_); (· rfl); (· rfl); (· first | rfl | simp [Act.eval]); (· first | rfl | simp [Act.eval]); (· kernel_rfl); (· rfl); (· simp [Value.oneCell'])) | fail)
          obtain ⟨w6, hw6⟩ : ∃ w6, w6 = (w5.alloc (.cells #[.int .i64 0, .int .i64 0, .int .i64 0, .int .i64 0, .int .i64 0, .int .i64 0, .int .i64 0] 39)).setRow w5.heap.size #[.int .i64 (y : Int), .int .i64 (mo : Int), .int .i64 (d : Int), .int .i64 (h : Int), .int .i64 (i : Int), .int .i64 60, .int .i64 (u : Int)] := ⟨_, rfl⟩
          rw [← hw6]
          have PA : Hid (w6.heap[w5.heap.size]? = some (.cells #[.int .i64 (y : Int), .int .i64 (mo : Int), .int .i64 (d : Int), .int .i64 (h : Int), .int .i64 (i : Int), .int .i64 60, .int .i64 (u : Int)] 39 (0, 0))) := Lib.hid (by rw [hw6]; exact setRow_heap _ _ _ _ _ _ (heap_alloc_new w5 _))
          have bw6 : Hid (Below w5.heap.size w5 w6) := Lib.hid (by rw [hw6]; exact Mid.below_row (Dice.new_block _) _ _ (Nat.le_refl _))
          replace BC := Lib.hid (Buf.then_ BC.out bw6.out)
          clear bw6
          generalize w5.heap.size = zA at *
          replace hw6 := Lib.hid hw6
          go_wp2_with fail
          refine (T2.out _ BC.out).mono ?_
          rintro e w7 ⟨rfl, bw7⟩
          replace PA := Lib.hid ((bw7.block _ (Array.getElem?_eq_some_iff.1 PA.out).1).trans PA.out)
          replace BC := Lib.hid (Buf.then_ BC.out bw7)
          clear bw7
          go_upto_region 12 with (first | ((with_reducible refine Mid.str 39 (.tmp 12) (.tmp 49) w7.heap.size 39 #[.int .i64 0, .int .i64 0, .int .i64 0, .int .i64 0, .int .i64 0, .int .i64 0, .int .i64 0] #[.int .i64 (y2 : Int), .int .i64 (mo2 : Int), .int .i64 (d2 : Int), .int .i64 (h2 : Int), .int .i64 (i2 : Int), .int .i64 (s2 : Int), .int .i64 (u2 : Int)] (heap_alloc_new w7 _) ?_ ?_ ?_ ?_ ?_ ?_ ?_ ?_); (· rfl); (· rfl); (· first | rfl | simp [Act.eval]); (· first | rfl | simp [Act.eval]); (· kernel_rfl); (· rfl); (· simp [Value.oneCell'])) | fail)
          obtain ⟨w8, hw8⟩ : ∃ w8, w8 = (w7.alloc (.cells #[.int .i64 0, .int .i64 0, .int .i64 0, .int .i64 0, .int .i64 0, .int .i64 0, .int .i64 0] 39)).setRow w7.heap.size #[.int .i64 (y2 : Int), .int .i64 (mo2 : Int), .int .i64 (d2 : Int), .int .i64 (h2 : Int), .int .i64 (i2 : Int), .int .i64 (s2 : Int), .int .i64 (u2 : Int)] := ⟨_, rfl⟩
          rw [← hw8]
          have PB : Hid (w8.heap[w7.heap.size]? = some (.cells #[.int .i64 (y2 : Int), .int .i64 (mo2 : Int), .int .i64 (d2 : Int), .int .i64 (h2 : Int), .int .i64 (i2 : Int), .int .i64 (s2 : Int), .int .i64 (u2 : Int)] 39 (0, 0))) := Lib.hid (by rw [hw8]; exact setRow_heap _ _ _ _ _ _ (heap_alloc_new w7 _))
          have bw8 : Hid (Below w7.heap.size w7 w8) := Lib.hid (by rw [hw8]; exact Mid.below_row (Dice.new_block _) _ _ (Nat.le_refl _))
          replace BC := Lib.hid (Buf.then_ BC.out bw8.out)
          replace PA := Lib.hid ((bw8.out.block _ (Array.getElem?_eq_some_iff.1 PA.out).1).trans PA.out)
          clear bw8
          generalize w7.heap.size = zB at *
          replace hw8 := Lib.hid hw8
          have ck8 := ck.out _ BC.out
          obtain ⟨k0, k1, k2, k3, k4, k5, k6⟩ := cells7 PA.out
          clear ck T1 T2
          go_wp2_with (first | (go_at_call 17; with_reducible refine (F1.out _ BC.out).mono ?_; rintro e w' ⟨rfl, hw⟩; replace hw := hw.symm; subst hw) | (go_at_call 17; with_reducible refine (F2.out _ BC.out).mono ?_; rintro e w' ⟨rfl, hw⟩; replace hw := hw.symm; subst hw) | (go_at_call 11; refine (Sn.out _).mono ?_; rintro e wz ⟨rfl, hb⟩) | fail)
          go_ret
          exact ⟨rfl, Buf.then_ DI.out (Buf.then_ BC.out hb)⟩
        | false =>
          obtain ⟨e4, e5, e6⟩ := e3 hi
          have s60 : ((s : Int) == 60) = false := by rw [hi] at csd; simp at csd; simp; omega
          obtain ⟨mv, hmv⟩ : ∃ mv : Nat, mv = f - k := ⟨_, rfl⟩
          rw [← hmv] at e4 e5 e6
          obtain ⟨t3, ht3⟩ : ∃ t3, t3 = x - mv * 1000000 := ⟨_, rfl⟩
          have q3 : t3 / 1000000 = q - mv := by omega
          have u3 : t3 % 1000000 = x % 1000000 := by omega
          have T3 := Lib.hid fun wx (hb : Below w4.heap.size w4 wx) => toCivil_any (RS.out.below hb) hvs.out t3 (by omega) (by omega)
          rw [q3, e5, e6, u3, hc] at T3
          have mm : (f : Int) - k = (mv : Int) := by omega
          have t3e : x - (mv : Int) * 1000000 = t3 := ht3.symm
          have mv9 : mv ≤ 64 := by omega
          clear e3 hc hc2 hf y0 y9 m9 d9 h9' i9 s9 u9 hkL csd hs' hi hlt e4 e5 e6 q3 u3 ht3 hmv
          generalize L.getD k 0 = lk at *
          obtain ⟨lk9, _, lk0⟩ := vb
          replace hf' := Lib.hid hf'
          go_wp2_with fail
          refine (T1.out _ BC.out).mono ?_
          rintro e w5 ⟨rfl, bw5⟩
          replace BC := Lib.hid (Buf.then_ BC.out bw5)
          clear bw5
          go_upto_region 11 with (first | ((with_reducible refine Mid.str 39 (.tmp 10) (.tmp 43) w5.heap.size 39 #[.int .i64 0, .int .i64 0, .int .i64 0, .int .i64 0, .int .i64 0, .int .i64 0, .int .i64 0] #[.int .i64 (y : Int), .int .i64 (mo : Int), .int .i64 (d : Int), .int .i64 (h : Int), .int .i64 (i : Int), .int .i64 (s : Int), .int .i64 (u : Int)] (heap_alloc_new w5 _) ?_ ?_ ?_ ?_ ?_ ?_ ?_ ?_); (· rfl); (· rfl); (· first | rfl | simp [Act.eval]); (· first | rfl | simp [Act.eval]); (· kernel_rfl); (· rfl); (· simp [Value.oneCell'])) | fail)
          obtain ⟨w6, hw6⟩ : ∃ w6, w6 = (w5.alloc (.cells #[.int .i64 0, .int .i64 0, .int .i64 0, .int .i64 0, .int .i64 0, .int .i64 0, .int .i64 0] 39)).setRow w5.heap.size #[.int .i64 (y : Int), .int .i64 (mo : Int), .int .i64 (d : Int), .int .i64 (h : Int), .int .i64 (i : Int), .int .i64 (s : Int), .int .i64 (u : Int)] := ⟨_, rfl⟩
          rw [← hw6]
          have PA : Hid (w6.heap[w5.heap.size]? = some (.cells #[.int .i64 (y : Int), .int .i64 (mo : Int), .int .i64 (d : Int), .int .i64 (h : Int), .int .i64 (i : Int), .int .i64 (s : Int), .int .i64 (u : Int)] 39 (0, 0))) := Lib.hid (by rw [hw6]; exact setRow_heap _ _ _ _ _ _ (heap_alloc_new w5 _))
          have bw6 : Hid (Below w5.heap.size w5 w6) := Lib.hid (by rw [hw6]; exact Mid.below_row (Dice.new_block _) _ _ (Nat.le_refl _))
          replace BC := Lib.hid (Buf.then_ BC.out bw6.out)
          clear bw6
          generalize w5.heap.size = zA at *
          replace hw6 := Lib.hid hw6
          go_wp2_with fail
          refine (T2.out _ BC.out).mono ?_
          rintro e w7 ⟨rfl, bw7⟩
          replace PA := Lib.hid ((bw7.block _ (Array.getElem?_eq_some_iff.1 PA.out).1).trans PA.out)
          replace BC := Lib.hid (Buf.then_ BC.out bw7)
          clear bw7
          go_upto_region 12 with (first | ((with_reducible refine Mid.str 39 (.tmp 12) (.tmp 49) w7.heap.size 39 #[.int .i64 0, .int .i64 0, .int .i64 0, .int .i64 0, .int .i64 0, .int .i64 0, .int .i64 0] #[.int .i64 (y2 : Int), .int .i64 (mo2 : Int), .int .i64 (d2 : Int), .int .i64 (h2 : Int), .int .i64 (i2 : Int), .int .i64 (s2 : Int), .int .i64 (u2 : Int)] (heap_alloc_new w7 _) ?_ ?_ ?_ ?_ ?_ ?_ ?_ ?_); (· rfl); (· rfl); (· first | rfl | simp [Act.eval]); (· first | rfl | simp [Act.eval]); (· kernel_rfl); (· rfl); (· simp [Value.oneCell'])) | fail)
          obtain ⟨w8, hw8⟩ : ∃ w8, w8 = (w7.alloc (.cells #[.int .i64 0, .int .i64 0, .int .i64 0, .int .i64 0, .int .i64 0, .int .i64 0, .int .i64 0] 39)).setRow w7.heap.size #[.int .i64 (y2 : Int), .int .i64 (mo2 : Int), .int .i64 (d2 : Int), .int .i64 (h2 : Int), .int .i64 (i2 : Int), .int .i64 (s2 : Int), .int .i64 (u2 : Int)] := ⟨_, rfl⟩
          rw [← hw8]
          have PB : Hid (w8.heap[w7.heap.size]? = some (.cells #[.int .i64 (y2 : Int), .int .i64 (mo2 : Int), .int .i64 (d2 : Int), .int .i64 (h2 : Int), .int .i64 (i2 : Int), .int .i64 (s2 : Int), .int .i64 (u2 : Int)] 39 (0, 0))) := Lib.hid (by rw [hw8]; exact setRow_heap _ _ _ _ _ _ (heap_alloc_new w7 _))
          have bw8 : Hid (Below w7.heap.size w7 w8) := Lib.hid (by rw [hw8]; exact Mid.below_row (Dice.new_block _) _ _ (Nat.le_refl _))
          replace BC := Lib.hid (Buf.then_ BC.out bw8.out)
          replace PA := Lib.hid ((bw8.out.block _ (Array.getElem?_eq_some_iff.1 PA.out).1).trans PA.out)
          clear bw8
          generalize w7.heap.size = zB at *
          replace hw8 := Lib.hid hw8
          have ck8 := ck.out _ BC.out
          obtain ⟨k0, k1, k2, k3, k4, k5, k6⟩ := cells7 PA.out
          clear ck T1 T2
          go_wp2_with (first | (go_at_call 17; with_reducible refine (F1.out _ BC.out).mono ?_; rintro e w' ⟨rfl, hw⟩; replace hw := hw.symm; subst hw) | (go_at_call 17; with_reducible refine (F2.out _ BC.out).mono ?_; rintro e w' ⟨rfl, hw⟩; replace hw := hw.symm; subst hw) | fail)
          refine (T3.out _ BC.out).mono ?_
          rintro e w9 ⟨rfl, bw9⟩
          replace PA := Lib.hid ((bw9.block _ (Array.getElem?_eq_some_iff.1 PA.out).1).trans PA.out)
          replace BC := Lib.hid (Buf.then_ BC.out bw9)
          clear bw9
          clear k0 k1 k2 k3 k4 k5 k6
          go_upto_region 20 with (first | ((with_reducible refine Mid.str 39 (.tmp 15) (.tmp 92) w9.heap.size 39 #[.int .i64 0, .int .i64 0, .int .i64 0, .int .i64 0, .int .i64 0, .int .i64 0, .int .i64 0] #[.int .i64 (y : Int), .int .i64 (mo : Int), .int .i64 (d : Int), .int .i64 (h : Int), .int .i64 (i : Int), .int .i64 (s : Int), .int .i64 (u : Int)] (heap_alloc_new w9 _) ?_ ?_ ?_ ?_ ?_ ?_ ?_ ?_); (· rfl); (· rfl); (· first | rfl | simp [Act.eval]); (· first | rfl | simp [Act.eval]); (· kernel_rfl); (· rfl); (· simp [Value.oneCell'])) | fail)
          obtain ⟨wA, hwA⟩ : ∃ wA, wA = (w9.alloc (.cells #[.int .i64 0, .int .i64 0, .int .i64 0, .int .i64 0, .int .i64 0, .int .i64 0, .int .i64 0] 39)).setRow w9.heap.size #[.int .i64 (y : Int), .int .i64 (mo : Int), .int .i64 (d : Int), .int .i64 (h : Int), .int .i64 (i : Int), .int .i64 (s : Int), .int .i64 (u : Int)] := ⟨_, rfl⟩
          rw [← hwA]
          have PC : Hid (wA.heap[w9.heap.size]? = some (.cells #[.int .i64 (y : Int), .int .i64 (mo : Int), .int .i64 (d : Int), .int .i64 (h : Int), .int .i64 (i : Int), .int .i64 (s : Int), .int .i64 (u : Int)] 39 (0, 0))) := Lib.hid (by rw [hwA]; exact setRow_heap _ _ _ _ _ _ (heap_alloc_new w9 _))
          have bwA : Hid (Below w9.heap.size w9 wA) := Lib.hid (by rw [hwA]; exact Mid.below_row (Dice.new_block _) _ _ (Nat.le_refl _))
          replace BC := Lib.hid (Buf.then_ BC.out bwA.out)
          replace PA := Lib.hid ((bwA.out.block _ (Array.getElem?_eq_some_iff.1 PA.out).1).trans PA.out)
          clear bwA
          generalize w9.heap.size = zC at *
          replace hwA := Lib.hid hwA
          go_wp2_with (first | ((with_reducible refine Mid.ldrg 39 (.tmp 10) zA 39 #[.int .i64 (y : Int), .int .i64 (mo : Int), .int .i64 (d : Int), .int .i64 (h : Int), .int .i64 (i : Int), .int .i64 (s : Int), .int .i64 (u : Int)] PA.out ?_ ?_ ?_ ?_ ?_ ?_); (· rfl); (· rfl); (· first | rfl | simp [Act.eval]); (· exact ⟨_, rfl, rfl⟩); (· kernel_rfl)) | ((with_reducible refine Mid.ldrg 39 (.tmp 15) zC 39 #[.int .i64 (y : Int), .int .i64 (mo : Int), .int .i64 (d : Int), .int .i64 (h : Int), .int .i64 (i : Int), .int .i64 (s : Int), .int .i64 (u : Int)] PC.out ?_ ?_ ?_ ?_ ?_ ?_); (· rfl); (· rfl); (· first | rfl | simp [Act.eval]); (· exact ⟨_, rfl, rfl⟩); (· kernel_rfl)) | (go_at_call 11; refine (Sn.out _).mono ?_; rintro e wz ⟨rfl, hb⟩) | fail)
          go_ret
          exact ⟨rfl, Buf.then_ DI.out (Buf.then_ BC.out hb)⟩
  · have hd : decide ((len0 : Int) ≤ 500) = false := by simp; omega
    go_enter Try.func4, Try.ntmps4
    go_wp2_with (first | (go_at_call 12; refine (light_any _ _ _ _).mono ?_; rintro e w1 ⟨rfl, rfl⟩; rw [hd]) | (go_at_call 11; refine (Sn.out _).mono ?_; rintro e w2 ⟨rfl, hb⟩))
    go_ret
    exact ⟨rfl, hb⟩
end Laws
end Go.Proofs.Ytnoggdhljijhpaa
