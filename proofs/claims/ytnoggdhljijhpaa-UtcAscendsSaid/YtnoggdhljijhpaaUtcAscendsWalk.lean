/- The walk of UtcAscends. -/
import Derived.Test.YtnoggdhljijhpaaUtcS
import Derived.Test.YtnoggdhljijhpaaUtcK
import Derived.Test.YtnoggdhljijhpaaUtcX
set_option linter.unusedVariables false
set_option linter.unusedSimpArgs false
namespace Go.Proofs.Ytnoggdhljijhpaa
open Go.RowKit Dice Ri
namespace Laws
open Utc
theorem civ_is {c s u y m d h i s' u' : Int} (e : civ c s u = .agg #[.int .i64 y, .int .i64 m, .int .i64 d, .int .i64 h, .int .i64 i, .int .i64 s', .int .i64 u']) : d = dD (c / 86400) ∧ h = c % 86400 / 3600 ∧ s' = s := by
  unfold civ at e
  injection e with e
  have h2 := congrArg (fun a : Array Value => a[2]?) e
  have h3 := congrArg (fun a : Array Value => a[3]?) e
  have h5 := congrArg (fun a : Array Value => a[5]?) e
  simp at h2 h3 h5
  exact ⟨h2.symm, h3.symm, h5.symm⟩
set_option maxHeartbeats 8000000 in
set_option maxRecDepth 100000 in
theorem utcAscends_walk (a0 : Option Addr) (len0 cap0 : Nat) (z0 : List Int) (a1 a2 : Int) (w : World) (w0 : Buf.IsRow .i64 w a0 len0 cap0 z0) (wf1 : (Lit.int .u32 a1).wf = true) (wf2 : (Lit.int .u32 a2).wf = true) :
    Calls Try.prog 5 #[.slice a0 len0 cap0, .int .u32 a1, .int .u32 a2] w fun e w' => e = .returned (.bool true) ∧ Below w.heap.size w w' := by
  have Sn := Lib.hid Utc.sane_any
  obtain ⟨b0, b1⟩ : 0 ≤ a1 ∧ a1 ≤ 4294967295 := Ma.wf_u32 wf1
  obtain ⟨b2, b3⟩ : 0 ≤ a2 ∧ a2 ≤ 4294967295 := Ma.wf_u32 wf2
  clear wf1 wf2
  by_cases hs : len0 ≤ 500
  · have hd : decide ((len0 : Int) ≤ 500) = true := by simp; omega
    go_enter Try.func5, Try.ntmps5
    go_upto_region 4 with (first | (go_at_call 12; refine (light_any _ _ _ _).mono ?_; rintro e w1 ⟨rfl, hw⟩; replace hw := hw.symm; subst hw; rw [hd]) | (go_at_call 13; refine (roll_any a0 len0 cap0 z0 _ w0 hs).mono ?_; rintro e w2 ⟨rfl, hdi⟩))
    go_wp2_with fail
    refine (leaps_any hdi).mono ?_
    rintro e w3 ⟨⟨lv, L, rfl, OL, hv, l4, UP⟩, hl⟩
    have dlt := hdi.lt
    replace hv := Lib.hid hv
    replace UP := Lib.hid UP
    have DI := Lib.hid hl.di.bel
    clear hl
    obtain ⟨ad, c, rfl, hlc, hcc⟩ := own_form OL
    obtain ⟨n, hn⟩ : ∃ n, n = L.length := ⟨_, rfl⟩
    rw [← hn] at OL l4 hlc ⊢
    replace hn := Lib.hid hn
    have RL := Lib.hid (own_ro OL)
    clear OL
    obtain ⟨x, hx⟩ : ∃ x, a1 * 100000 = x := ⟨_, rfl⟩
    obtain ⟨z, hz⟩ : ∃ z, x + 1 + a2 = z := ⟨_, rfl⟩
    have x0 : 0 ≤ x := by omega
    have x9 : x ≤ 429496729500000 := by omega
    have z9 : z ≤ 429496729500000 + 4294967296 := by omega
    have xz : x < z := by omega
    have BC := Lib.hid (Below.refl w3.heap.size w3)
    have T1 := Lib.hid fun wx (hb : Below w3.heap.size w3 wx) => format_any (RL.out.below hb) hv.out x (by omega) (by omega)
    have T2 := Lib.hid fun wx (hb : Below w3.heap.size w3 wx) => format_any (RL.out.below hb) hv.out z (by omega) (by omega)
    have F1 := Lib.hid fun wx (hb : Below w3.heap.size w3 wx) => offset_any (RL.out.below hb) hv.out x (by omega) (by omega)
    have F2 := Lib.hid fun wx (hb : Below w3.heap.size w3 wx) => offset_any (RL.out.below hb) hv.out z (by omega) (by omega)
    have bl := fm_lt hv.out x0 xz (by omega)
    have om := off_mono (L := L) (show x / 1000000 ≤ z / 1000000 by omega)
    have of1 := off_le L (x / 1000000)
    have of2 := off_le L (z / 1000000)
    rw [← hn.out] at of1 of2
    generalize off L (x / 1000000) = f1 at *
    generalize off L (z / 1000000) = f2 at *
    generalize fm L x = t1 at *
    generalize fm L z = t2 at *
    have om' : ¬ (f2 < f1) := by omega
    go_wp2_with fail
    refine (T1.out _ BC.out).mono ?_
    rintro e w5 ⟨rfl, bw5⟩
    replace BC := Lib.hid (Buf.then_ BC.out bw5)
    clear bw5
    go_wp2_with fail
    refine (T2.out _ BC.out).mono ?_
    rintro e w7 ⟨rfl, bw7⟩
    replace BC := Lib.hid (Buf.then_ BC.out bw7)
    clear bw7
    go_wp2_with (first | (go_at_call 17; with_reducible refine (F1.out _ BC.out).mono ?_; rintro e w' ⟨rfl, hw⟩; replace hw := hw.symm; subst hw) | (go_at_call 17; with_reducible refine (F2.out _ BC.out).mono ?_; rintro e w' ⟨rfl, hw⟩; replace hw := hw.symm; subst hw) | fail)
    clear T1 T2 F1 F2 bl om om' of1 of2
    go_loopw [73] (fun s73 wr => ∃ k : Nat, k ≤ n ∧ s73 = .int .i64 k ∧ Hid (Below w3.heap.size w3 wr)) (fun s73 _ => (n - intOf s73).toNat)
    case atStart => exact ⟨0, by omega, rfl, BC⟩
    case round =>
      clear BC
      obtain ⟨k, hk, rfl, BC⟩ := hrel
      by_cases hlt : k < n
      · have hlt' : (k : Int) < n := by omega
        obtain ⟨g, o, rfl⟩ := RL.out.form (by omega)
        have ck := (RL.out.below BC.out).cell k hlt
        have hkL : k < L.length := by rw [← hn.out]; exact hlt
        obtain ⟨g1, g2, g3, g4, g5, g6, g7⟩ := at_leap hv.out k hkL
        obtain ⟨_, _, v3⟩ := hv.out.val k hkL
        have v9 := UP.out k hkL
        have csl : cs L (L.getD k 0) = 60 := by unfold cs; rw [g2]; rfl
        generalize L.getD k 0 = v at *
        have v0 : 1 ≤ v := by omega
        have v9 : v ≤ 200000000 := by omega
        obtain ⟨V, hV⟩ : ∃ V, v * 1000000 = V := ⟨_, rfl⟩
        have V0 : 1000000 ≤ V := by omega
        have V9 : V ≤ 200000000000000 := by omega
        have q1 : V / 1000000 = v := by omega
        have q2 : (V - 1) / 1000000 = v - 1 := by omega
        have q3 : (V + 1000000) / 1000000 = v + 1 := by omega
        obtain ⟨y, mo, d, h, i, s, u, hc, -, -⟩ := civ_form hv.out V (by omega) (by omega)
        obtain ⟨y2, mo2, d2, h2, i2, s2, u2, hc2, -, -⟩ := civ_form hv.out (V - 1) (by omega) (by omega)
        obtain ⟨y3, mo3, d3, h3, i3, s3, u3, hc3, -, -⟩ := civ_form hv.out (V + 1000000) (by omega) (by omega)
        have T1 := Lib.hid fun wx (hb : Below w3.heap.size w3 wx) => toCivil_any (RL.out.below hb) hv.out V (by omega) (by omega)
        have T2 := Lib.hid fun wx (hb : Below w3.heap.size w3 wx) => toCivil_any (RL.out.below hb) hv.out (V - 1) (by omega) (by omega)
        have T3 := Lib.hid fun wx (hb : Below w3.heap.size w3 wx) => toCivil_any (RL.out.below hb) hv.out (V + 1000000) (by omega) (by omega)
        have F1 := Lib.hid fun wx (hb : Below w3.heap.size w3 wx) => offset_any (RL.out.below hb) hv.out V (by omega) (by omega)
        have F2 := Lib.hid fun wx (hb : Below w3.heap.size w3 wx) => offset_any (RL.out.below hb) hv.out (V + 1000000) (by omega) (by omega)
        rw [hc] at T1
        rw [hc2] at T2
        rw [hc3] at T3
        rw [q1, g1] at F1
        rw [q3, g3] at F2
        rw [q1] at hc
        rw [q2] at hc2
        rw [q3] at hc3
        obtain ⟨r1, r7, r2⟩ := civ_is hc
        obtain ⟨r3, r8, r4⟩ := civ_is hc2
        obtain ⟨r9, r5, r6⟩ := civ_is hc3
        have es : s = 60 := by omega
        have es2 : s2 = 59 := by omega
        have ed : d2 = d := by rw [g5] at r3; omega
        have es3 : s3 = 0 := by omega
        have eh3 : h3 = 0 := by rw [g7] at r5; simp at r5; omega
        subst es es2 ed es3 eh3
        clear r1 r2 r3 r4 r5 r6 r7 r8 r9 hc hc2 hc3 q1 q2 q3 g1 g2 g3 g4 g5 g6 g7 csl hkL v3
        rw [show ((60 : Nat) : Int) = 60 from rfl] at T1
        rw [show ((59 : Nat) : Int) = 59 from rfl] at T2
        rw [show ((0 : Nat) : Int) = 0 from rfl] at T3
        go_wp2_with fail
        refine (T1.out _ BC.out).mono ?_
        rintro e w8 ⟨rfl, bw8⟩
        replace BC := Lib.hid (Buf.then_ BC.out bw8)
        clear bw8
        go_upto_region 15 with (first | ((with_reducible refine Mid.str 39 (.tmp 17) (.tmp 83) w8.heap.size 39 #[.int .i64 0, .int .i64 0, .int .i64 0, .int .i64 0, .int .i64 0, .int .i64 0, .int .i64 0] #[.int .i64 (y : Int), .int .i64 (mo : Int), .int .i64 (d2 : Int), .int .i64 (h : Int), .int .i64 (i : Int), .int .i64 60, .int .i64 (u : Int)] (heap_alloc_new w8 _) ?_ ?_ ?_ ?_ ?_ ?_ ?_ ?_); (· rfl); (· rfl); (· first | rfl | simp [Act.eval]); (· first | rfl | simp [Act.eval]); (· kernel_rfl); (· rfl); (· simp [Value.oneCell'])) | fail)
        obtain ⟨w9, hw9⟩ : ∃ w9, w9 = (w8.alloc (.cells #[.int .i64 0, .int .i64 0, .int .i64 0, .int .i64 0, .int .i64 0, .int .i64 0, .int .i64 0] 39)).setRow w8.heap.size #[.int .i64 (y : Int), .int .i64 (mo : Int), .int .i64 (d2 : Int), .int .i64 (h : Int), .int .i64 (i : Int), .int .i64 60, .int .i64 (u : Int)] := ⟨_, rfl⟩
        rw [← hw9]
        have PA : Hid (w9.heap[w8.heap.size]? = some (.cells #[.int .i64 (y : Int), .int .i64 (mo : Int), .int .i64 (d2 : Int), .int .i64 (h : Int), .int .i64 (i : Int), .int .i64 60, .int .i64 (u : Int)] 39 (0, 0))) := Lib.hid (by rw [hw9]; exact setRow_heap _ _ _ _ _ _ (heap_alloc_new w8 _))
        have bw9 : Hid (Below w8.heap.size w8 w9) := Lib.hid (by rw [hw9]; exact Mid.below_row (Dice.new_block _) _ _ (Nat.le_refl _))
        replace BC := Lib.hid (Buf.then_ BC.out bw9.out)
        clear bw9
        generalize w8.heap.size = zA at *
        replace hw9 := Lib.hid hw9
        go_wp2_with fail
        refine (T2.out _ BC.out).mono ?_
        rintro e wa ⟨rfl, bwa⟩
        replace PA := Lib.hid ((bwa.block _ (Array.getElem?_eq_some_iff.1 PA.out).1).trans PA.out)
        replace BC := Lib.hid (Buf.then_ BC.out bwa)
        clear bwa
        go_upto_region 16 with (first | ((with_reducible refine Mid.str 39 (.tmp 19) (.tmp 91) wa.heap.size 39 #[.int .i64 0, .int .i64 0, .int .i64 0, .int .i64 0, .int .i64 0, .int .i64 0, .int .i64 0] #[.int .i64 (y2 : Int), .int .i64 (mo2 : Int), .int .i64 (d2 : Int), .int .i64 (h2 : Int), .int .i64 (i2 : Int), .int .i64 59, .int .i64 (u2 : Int)] (heap_alloc_new wa _) ?_ ?_ ?_ ?_ ?_ ?_ ?_ ?_); (· rfl); (· rfl); (· first | rfl | simp [Act.eval]); (· first | rfl | simp [Act.eval]); (· kernel_rfl); (· rfl); (· simp [Value.oneCell'])) | fail)
        obtain ⟨wb, hwb⟩ : ∃ wb, wb = (wa.alloc (.cells #[.int .i64 0, .int .i64 0, .int .i64 0, .int .i64 0, .int .i64 0, .int .i64 0, .int .i64 0] 39)).setRow wa.heap.size #[.int .i64 (y2 : Int), .int .i64 (mo2 : Int), .int .i64 (d2 : Int), .int .i64 (h2 : Int), .int .i64 (i2 : Int), .int .i64 59, .int .i64 (u2 : Int)] := ⟨_, rfl⟩
        rw [← hwb]
        have PB : Hid (wb.heap[wa.heap.size]? = some (.cells #[.int .i64 (y2 : Int), .int .i64 (mo2 : Int), .int .i64 (d2 : Int), .int .i64 (h2 : Int), .int .i64 (i2 : Int), .int .i64 59, .int .i64 (u2 : Int)] 39 (0, 0))) := Lib.hid (by rw [hwb]; exact setRow_heap _ _ _ _ _ _ (heap_alloc_new wa _))
        have bwb : Hid (Below wa.heap.size wa wb) := Lib.hid (by rw [hwb]; exact Mid.below_row (Dice.new_block _) _ _ (Nat.le_refl _))
        replace BC := Lib.hid (Buf.then_ BC.out bwb.out)
        replace PA := Lib.hid ((bwb.out.block _ (Array.getElem?_eq_some_iff.1 PA.out).1).trans PA.out)
        clear bwb
        generalize wa.heap.size = zB at *
        replace hwb := Lib.hid hwb
        go_wp2_with fail
        refine (T3.out _ BC.out).mono ?_
        rintro e wc ⟨rfl, bwc⟩
        replace PA := Lib.hid ((bwc.block _ (Array.getElem?_eq_some_iff.1 PA.out).1).trans PA.out)
        replace PB := Lib.hid ((bwc.block _ (Array.getElem?_eq_some_iff.1 PB.out).1).trans PB.out)
        replace BC := Lib.hid (Buf.then_ BC.out bwc)
        clear bwc
        go_upto_region 17 with (first | ((with_reducible refine Mid.str 39 (.tmp 21) (.tmp 99) wc.heap.size 39 #[.int .i64 0, .int .i64 0, .int .i64 0, .int .i64 0, .int .i64 0, .int .i64 0, .int .i64 0] #[.int .i64 (y3 : Int), .int .i64 (mo3 : Int), .int .i64 (d3 : Int), .int .i64 0, .int .i64 (i3 : Int), .int .i64 0, .int .i64 (u3 : Int)] (heap_alloc_new wc _) ?_ ?_ ?_ ?_ ?_ ?_ ?_ ?_); (· rfl); (· rfl); (· first | rfl | simp [Act.eval]); (· first | rfl | simp [Act.eval]); (· kernel_rfl); (· rfl); (· simp [Value.oneCell'])) | fail)
        obtain ⟨wd, hwd⟩ : ∃ wd, wd = (wc.alloc (.cells #[.int .i64 0, .int .i64 0, .int .i64 0, .int .i64 0, .int .i64 0, .int .i64 0, .int .i64 0] 39)).setRow wc.heap.size #[.int .i64 (y3 : Int), .int .i64 (mo3 : Int), .int .i64 (d3 : Int), .int .i64 0, .int .i64 (i3 : Int), .int .i64 0, .int .i64 (u3 : Int)] := ⟨_, rfl⟩
        rw [← hwd]
        have PC : Hid (wd.heap[wc.heap.size]? = some (.cells #[.int .i64 (y3 : Int), .int .i64 (mo3 : Int), .int .i64 (d3 : Int), .int .i64 0, .int .i64 (i3 : Int), .int .i64 0, .int .i64 (u3 : Int)] 39 (0, 0))) := Lib.hid (by rw [hwd]; exact setRow_heap _ _ _ _ _ _ (heap_alloc_new wc _))
        have bwd : Hid (Below wc.heap.size wc wd) := Lib.hid (by rw [hwd]; exact Mid.below_row (Dice.new_block _) _ _ (Nat.le_refl _))
        replace BC := Lib.hid (Buf.then_ BC.out bwd.out)
        replace PA := Lib.hid ((bwd.out.block _ (Array.getElem?_eq_some_iff.1 PA.out).1).trans PA.out)
        replace PB := Lib.hid ((bwd.out.block _ (Array.getElem?_eq_some_iff.1 PB.out).1).trans PB.out)
        clear bwd
        generalize wc.heap.size = zC at *
        replace hwd := Lib.hid hwd
        obtain ⟨a0', a1', a2', a3', a4', a5', a6'⟩ := cells7 PA.out
        obtain ⟨b0', b1', b2', b3', b4', b5', b6'⟩ := cells7 PB.out
        obtain ⟨c0', c1', c2', c3', c4', c5', c6'⟩ := cells7 PC.out
        clear T1 T2 T3
        go_wp2_with (first | (go_at_call 17; with_reducible refine (F1.out _ BC.out).mono ?_; rintro e w' ⟨rfl, hw⟩; replace hw := hw.symm; subst hw) | (go_at_call 17; with_reducible refine (F2.out _ BC.out).mono ?_; rintro e w' ⟨rfl, hw⟩; replace hw := hw.symm; subst hw) | fail)
        exact ⟨⟨k + 1, by omega, by go_num, BC⟩, by simp [intOf]; omega⟩
      · obtain rfl : k = n := by omega
        go_wp2_with (go_at_call 11; refine (Sn.out _).mono ?_; rintro e wz ⟨rfl, hb⟩)
        go_ret
        exact ⟨rfl, Buf.then_ DI.out (Buf.then_ BC.out hb)⟩
  · have hd : decide ((len0 : Int) ≤ 500) = false := by simp; omega
    go_enter Try.func5, Try.ntmps5
    go_wp2_with (first | (go_at_call 12; refine (light_any _ _ _ _).mono ?_; rintro e w1 ⟨rfl, rfl⟩; rw [hd]) | (go_at_call 11; refine (Sn.out _).mono ?_; rintro e w2 ⟨rfl, hb⟩))
    go_ret
    exact ⟨rfl, hb⟩
end Laws
end Go.Proofs.Ytnoggdhljijhpaa
