/- RxGI: texts joined. -/
import Derived.Test.YtfmhfhggogjbkaaRxFV
import Derived.Test.YtfmhfhggogjbkaaRxU
import Derived.Deep.DeepCutAuto
import Derived.Lib.MinMax
/- The reference's receivers of any lists: Valid, and what is refused. -/
set_option linter.unusedVariables false
set_option linter.unusedSimpArgs false
namespace Go.Proofs.Ytfmhfhggogjbkaa
open Go.RowKit Dice Wi
namespace Rx
open Spn
open Sp (cells2 cells2_snoc cells2_get Spans own_kept own_below own_mono own_shape)
set_option maxHeartbeats 4000000 in
set_option maxRecDepth 100000 in
theorem refnumbers_no {w : World} {v : Value} {L : LP} (h : Itw w v L) (h9 : L.length ≤ 100) (no : ¬ VS L) :
    Calls Try.prog 70 #[v] w fun e w' => e = .returned (.bool false) ∧ Below w.heap.size w w' := by
  obtain ⟨hc, hhc⟩ : ∃ b : Bool, b = true ↔ Canon L := by
    by_cases c : Canon L
    · exact ⟨true, by simp [c]⟩
    · exact ⟨false, by simp [c]⟩
  have HV := Lib.hid fun (w' : World) (h' : Below w.heap.size w w') => refvalid08_anyw hc hhc (h.keep h') (by omega)
  have NO := Lib.hid no
  have HHC := Lib.hid hhc
  obtain ⟨ad, c, rfl, hc1, hf⟩ := itw_form h
  obtain ⟨n, hn⟩ : ∃ n, n = L.length := ⟨_, rfl⟩
  rw [← hn] at hc1 h9 ⊢
  rw [← hn] at HV
  replace hn := Lib.hid hn
  have F := Lib.hid hf
  have W0 := Lib.hid (Below.refl w.heap.size w)
  clear h hf hhc no
  go_enter Try.func70, Try.ntmps70
  go_wp2_with fail
  go_loopw [3] (fun i wr => ∃ kx : Nat, kx ≤ n ∧ i = .int .i64 kx ∧ Hid (Below w.heap.size w wr) ∧ Hid (∀ (j : Nat) (p : Int × Int), j < kx → L[j]? = some p → 0 ≤ p.1 ∧ p.2 ≤ 1073741825)) (fun i _ => n - (intOf i).toNat)
  case atStart => exact ⟨0, Nat.zero_le _, rfl, W0, Lib.hid fun j p hj => absurd hj (Nat.not_lt_zero _)⟩
  case round =>
    clear W0
    obtain ⟨kx, hk, rfl, HB, HI⟩ := hrel
    by_cases hlt : kx < n
    · obtain ⟨⟨f, t⟩, hp⟩ : ∃ p, L[kx]? = some p := ⟨L[kx]'(by rw [← hn.out]; exact hlt), List.getElem?_eq_getElem _⟩
      obtain ⟨g, o, rfl, hg, q0, q1⟩ := F.out kx _ hp
      have k0 := (HB.out.cell (p := ⟨g, _, none⟩) hg).trans q0
      have k1 := (HB.out.cell (p := ⟨g, _, none⟩) hg).trans q1
      dsimp only at k0 k1
      have b1 : (kx : Int) < n := by omega
      replace hp := Lib.hid hp
      clear q0 q1
      by_cases h1 : f < 0
      · have d1 : decide (f < 0) = true := decide_eq_true h1
        go_wp2_with fail
        go_ret
        exact ⟨rfl, HB.out⟩
      · have d1 : decide (f < 0) = false := decide_eq_false h1
        by_cases h2 : 1073741825 < t
        · have d2 : decide (1073741825 < t) = true := decide_eq_true h2
          go_wp2_with fail
          go_ret
          exact ⟨rfl, HB.out⟩
        · have d2 : decide (1073741825 < t) = false := decide_eq_false h2
          have HI2 := Lib.hid (show ∀ (j : Nat) (p : Int × Int), j < kx + 1 → L[j]? = some p → 0 ≤ p.1 ∧ p.2 ≤ 1073741825 from fun j p hj hjp => by
            by_cases e : j = kx
            · subst e; rw [hp.out] at hjp; injection hjp with e2; subst e2; exact ⟨by omega, by omega⟩
            · exact HI.out j p (by omega) hjp)
          clear h1 h2 HI
          go_wp2_with fail
          go_roundw
          case rel => exact ⟨kx + 1, by omega, by go_num, HB, HI2⟩
          case measure => simp [intOf]; omega
    · obtain rfl : kx = n := by omega
      obtain rfl : hc = false := by
        rw [← Bool.not_eq_true]
        intro e
        refine NO.out ⟨HHC.out.1 e, fun p hp => ?_⟩
        obtain ⟨i, hi, rfl⟩ := List.mem_iff_getElem.1 hp
        exact HI.out i _ (by rw [hn.out]; exact hi) (List.getElem?_eq_getElem _)
      go_wp2_with (go_at_call 25; with_reducible refine (HV.out _ HB.out).mono ?_; rintro e w1 ⟨rfl, hb⟩)
      go_ret
      exact ⟨rfl, Buf.then_ HB.out hb⟩
set_option maxHeartbeats 4000000 in
theorem refvalid_no {w : World} {vg vl : Value} {G L : LP} (h : Rq w vg vl G L) (no : ¬ OkR G L) :
    Calls Try.prog 49 #[.agg #[vg, vl]] w fun e w' => e = .returned (.bool false) ∧ Below w.heap.size w w' := by
  obtain ⟨ga, gn, gc, la, ln, lc, rfl, rfl⟩ := h.form
  have B0 := Lib.hid (new_block (w := w) (.cells #[.slice ga gn gc, .slice la ln lc] 46))
  have P0 := Lib.hid fun wx (hb : Below (w.alloc (.cells #[.slice ga gn gc, .slice la ln lc] 46)).heap.size (w.alloc (.cells #[.slice ga gn gc, .slice la ln lc] 46)) wx) => c2 (hop hb (heap_alloc_new w (.cells #[.slice ga gn gc, .slice la ln lc] 46)))
  have HR := Lib.hid h
  go_enter Try.func49, Try.ntmps49
  obtain ⟨wb, hwb⟩ : ∃ wb, wb = w.alloc (.cells #[.slice ga gn gc, .slice la ln lc] 46) := ⟨_, rfl⟩
  rw [← hwb] at B0 P0
  obtain ⟨k0, k1⟩ := P0.out wb (Below.refl _ _)
  by_cases hG : VS G
  · have V1 := Lib.hid fun wx (hb : Below w.heap.size w wx) => refnumbers_yes (show Sw wx (.slice ga gn gc) (hasB G) 40 from ⟨G, (HR.out.keep hb).got, Is.self hG.1, h.g9, hG.2⟩)
    by_cases hL : VS L
    · have V2 := Lib.hid fun wx (hb : Below w.heap.size w wx) => refnumbers_yes (show Sw wx (.slice la ln lc) (hasB L) 40 from ⟨L, (HR.out.keep hb).lost, Is.self hL.1, h.l9, hL.2⟩)
      have M := Lib.hid fun wx (hb : Below w.heap.size w wx) => refmeet_sw (show Rw wx (.slice ga gn gc) (hasB G) 40 from ⟨G, (HR.out.keep hb).got, fun _ => rfl, h.g9, hG.2⟩) (show Rw wx (.slice la ln lc) (hasB L) 40 from ⟨L, (HR.out.keep hb).lost, fun _ => rfl, h.l9, hL.2⟩) (by omega) (by omega)
      have AP : Hid (∃ x, (hasB G x && hasB L x) = true) := Lib.hid (by
        refine Classical.byContradiction fun hh => no ⟨hG, hL, fun x => ?_⟩
        rw [← Bool.not_eq_true]
        exact fun e => hh ⟨x, e⟩)
      clear no h
      go_wp2_with fail
      rw [← hwb]
      refine (V1.out wb B0.out).mono ?_
      rintro e w1 ⟨rfl, hb⟩
      clear k0 k1
      have BB := Lib.hid (Buf.then_ (Below.refl _ _) hb)
      obtain ⟨k0, k1⟩ := P0.out w1 BB.out
      clear hb
      go_wp2_with fail
      refine (V2.out w1 (Buf.then_ B0.out BB.out)).mono ?_
      rintro e w2 ⟨rfl, hb⟩
      clear k0 k1
      replace BB := Lib.hid (Buf.then_ BB.out hb)
      obtain ⟨k0, k1⟩ := P0.out w2 BB.out
      clear hb
      go_wp2_with fail
      refine (M.out w2 (Buf.then_ B0.out BB.out)).mono ?_
      rintro e w3 ⟨⟨r, rfl, hS⟩, hb⟩
      obtain ⟨x, hx⟩ := AP.out
      obtain ⟨ra, rn, rc, rfl, hrn, hr9⟩ : ∃ a n c, r = .slice a n c ∧ 0 < n ∧ n ≤ 80 := by
        obtain ⟨N, s1, s2, s3, _⟩ := hS
        obtain ⟨a, c, e, _⟩ := itw_form s1
        refine ⟨a, _, c, e, ?_, by omega⟩
        rcases Nat.eq_zero_or_pos N.length with h0 | h0
        · obtain rfl : N = [] := List.length_eq_zero_iff.1 h0
          have := s2.has x
          rw [hx] at this
          simp [hasB] at this
        · exact h0
      have eq0 : ((rn : Int) == 0) = false := by simp; omega
      clear hS hx
      replace BB := Lib.hid (Buf.then_ (Buf.then_ B0.out BB.out) hb)
      clear hb
      go_wp2_with fail
      go_ret
      exact ⟨rfl, BB.out⟩
    · have V2 := Lib.hid fun wx (hb : Below w.heap.size w wx) => refnumbers_no (HR.out.keep hb).lost (by have := h.l9; omega) hL
      clear no h
      go_wp2_with fail
      rw [← hwb]
      refine (V1.out wb B0.out).mono ?_
      rintro e w1 ⟨rfl, hb⟩
      clear k0 k1
      have BB := Lib.hid (Buf.then_ (Below.refl _ _) hb)
      obtain ⟨k0, k1⟩ := P0.out w1 BB.out
      clear hb
      go_wp2_with fail
      refine (V2.out w1 (Buf.then_ B0.out BB.out)).mono ?_
      rintro e w2 ⟨rfl, hb⟩
      replace BB := Lib.hid (Buf.then_ (Buf.then_ B0.out BB.out) hb)
      clear hb
      go_wp2_with fail
      go_ret
      exact ⟨rfl, BB.out⟩
  · have V1 := Lib.hid fun wx (hb : Below w.heap.size w wx) => refnumbers_no (HR.out.keep hb).got (by have := h.g9; omega) hG
    clear no h
    go_wp2_with fail
    rw [← hwb]
    refine (V1.out wb B0.out).mono ?_
    rintro e w1 ⟨rfl, hb⟩
    have BB := Lib.hid (Buf.then_ B0.out hb)
    clear hb
    go_wp2_with fail
    go_ret
    exact ⟨rfl, BB.out⟩
set_option maxHeartbeats 4000000 in
set_option maxRecDepth 100000 in
theorem refaccept_inv {w : World} {vg vl : Value} {G L : LP} (h : Rq w vg vl G L) (q : Int) (no : ¬ OkR G L) :
    Calls Try.prog 40 #[.agg #[vg, vl], .int .i64 q] w fun e w' => e = .returned (.tuple #[.agg #[.slice none 0 0, .slice none 0 0], .bool false, .int .i64 1]) ∧ Below w.heap.size w w' := by
  obtain ⟨ga, gn, gc, la, ln, lc, rfl, rfl⟩ := h.form
  have HR := Lib.hid h
  clear h
  go_enter Try.func40, Try.ntmps40
  obtain ⟨wb, hwb⟩ : ∃ wb, wb = (w.alloc (.cells #[.slice ga gn gc, .slice la ln lc] 46)).alloc (.cells #[.slice none 0 0, .slice none 0 0] 46) := ⟨_, rfl⟩
  have B0 := Lib.hid (show Below w.heap.size w wb by rw [hwb]; exact Buf.then_ (new_block _) (new_block _))
  have PX := Lib.hid (show wb.heap[w.heap.size]? = some (.cells #[.slice ga gn gc, .slice la ln lc] 46 (0, 0)) by rw [hwb]; exact hop (new_block _) (heap_alloc_new w _))
  have PY := Lib.hid (show wb.heap[w.heap.size + 1]? = some (.cells #[.slice none 0 0, .slice none 0 0] 46 (0, 0)) by
    have e : (w.alloc (.cells #[.slice ga gn gc, .slice la ln lc] 46)).heap.size = w.heap.size + 1 := by simp
    rw [hwb, ← e]; exact heap_alloc_new _ _)
  obtain ⟨k0, k1⟩ := Spn.c2 PX.out
  have V := Lib.hid (refvalid_no (HR.out.keep B0.out) no)
  go_upto_region 1 with fail
  rw [← hwb]
  clear hwb
  go_wp2_with fail
  refine V.out.mono ?_
  rintro e w1 ⟨rfl, hb⟩
  clear k0 k1 V
  have B1 := Lib.hid (Buf.then_ B0.out hb)
  obtain ⟨k0, k1⟩ := Spn.c2 (hop hb PX.out)
  obtain ⟨k2, k3⟩ := Spn.c2 (hop hb PY.out)
  have f0 := frozen_of_row w1 (w.heap.size + 1) 0 _ _ (hop hb PY.out)
  have f1 := frozen_of_row w1 (w.heap.size + 1) 1 _ _ (hop hb PY.out)
  clear hb PX HR no PY
  go_wp2_with fail
  refine bodyPost_ret (v := .tuple #[.agg #[.slice none 0 0, .slice none 0 0], .bool false, .int .i64 1]) (by simp [results, Try.results40, go_sem, k2, k3]) rfl ⟨rfl, ?_⟩
  first | exact B1.out | exact Buf.below_drewN B1.out _ | exact (B1.out.setCell (p := ⟨w.heap.size + 1, 0, none⟩) (Nat.le_succ _) _).setCell (p := ⟨w.heap.size + 1, 1, none⟩) (Nat.le_succ _) _ | exact ((Buf.below_drewN B1.out _).setCell (p := ⟨w.heap.size + 1, 0, none⟩) (Nat.le_succ _) _).setCell (p := ⟨w.heap.size + 1, 1, none⟩) (Nat.le_succ _) _
set_option maxHeartbeats 4000000 in
set_option maxRecDepth 100000 in
theorem reflose_inv {w : World} {vg vl : Value} {G L : LP} (h : Rq w vg vl G L) (q : Int) (no : ¬ OkR G L) :
    Calls Try.prog 42 #[.agg #[vg, vl], .int .i64 q] w fun e w' => e = .returned (.tuple #[.agg #[.slice none 0 0, .slice none 0 0], .int .i64 1]) ∧ Below w.heap.size w w' := by
  obtain ⟨ga, gn, gc, la, ln, lc, rfl, rfl⟩ := h.form
  have HR := Lib.hid h
  clear h
  go_enter Try.func42, Try.ntmps42
  obtain ⟨wb, hwb⟩ : ∃ wb, wb = (w.alloc (.cells #[.slice ga gn gc, .slice la ln lc] 46)).alloc (.cells #[.slice none 0 0, .slice none 0 0] 46) := ⟨_, rfl⟩
  have B0 := Lib.hid (show Below w.heap.size w wb by rw [hwb]; exact Buf.then_ (new_block _) (new_block _))
  have PX := Lib.hid (show wb.heap[w.heap.size]? = some (.cells #[.slice ga gn gc, .slice la ln lc] 46 (0, 0)) by rw [hwb]; exact hop (new_block _) (heap_alloc_new w _))
  have PY := Lib.hid (show wb.heap[w.heap.size + 1]? = some (.cells #[.slice none 0 0, .slice none 0 0] 46 (0, 0)) by
    have e : (w.alloc (.cells #[.slice ga gn gc, .slice la ln lc] 46)).heap.size = w.heap.size + 1 := by simp
    rw [hwb, ← e]; exact heap_alloc_new _ _)
  obtain ⟨k0, k1⟩ := Spn.c2 PX.out
  have V := Lib.hid (refvalid_no (HR.out.keep B0.out) no)
  go_upto_region 1 with fail
  rw [← hwb]
  clear hwb
  go_wp2_with fail
  refine V.out.mono ?_
  rintro e w1 ⟨rfl, hb⟩
  clear k0 k1 V
  have B1 := Lib.hid (Buf.then_ B0.out hb)
  obtain ⟨k0, k1⟩ := Spn.c2 (hop hb PX.out)
  obtain ⟨k2, k3⟩ := Spn.c2 (hop hb PY.out)
  have f0 := frozen_of_row w1 (w.heap.size + 1) 0 _ _ (hop hb PY.out)
  have f1 := frozen_of_row w1 (w.heap.size + 1) 1 _ _ (hop hb PY.out)
  clear hb PX HR no PY
  go_wp2_with fail
  refine bodyPost_ret (v := .tuple #[.agg #[.slice none 0 0, .slice none 0 0], .int .i64 1]) (by simp [results, Try.results42, go_sem, k2, k3]) rfl ⟨rfl, ?_⟩
  first | exact B1.out | exact Buf.below_drewN B1.out _ | exact (B1.out.setCell (p := ⟨w.heap.size + 1, 0, none⟩) (Nat.le_succ _) _).setCell (p := ⟨w.heap.size + 1, 1, none⟩) (Nat.le_succ _) _ | exact ((Buf.below_drewN B1.out _).setCell (p := ⟨w.heap.size + 1, 0, none⟩) (Nat.le_succ _) _).setCell (p := ⟨w.heap.size + 1, 1, none⟩) (Nat.le_succ _) _
set_option maxHeartbeats 4000000 in
set_option maxRecDepth 100000 in
theorem refmissing_inv {w : World} {vg vl : Value} {G L : LP} (h : Rq w vg vl G L) (q : Int) (no : ¬ OkR G L) :
    Calls Try.prog 45 #[.agg #[vg, vl], .int .i64 q] w fun e w' => e = .returned (.tuple #[.slice none 0 0, .int .i64 1]) ∧ Below w.heap.size w w' := by
  obtain ⟨ga, gn, gc, la, ln, lc, rfl, rfl⟩ := h.form
  have HR := Lib.hid h
  clear h
  go_enter Try.func45, Try.ntmps45
  obtain ⟨wb, hwb⟩ : ∃ wb, wb = w.alloc (.cells #[.slice ga gn gc, .slice la ln lc] 46) := ⟨_, rfl⟩
  have B0 := Lib.hid (show Below w.heap.size w wb by rw [hwb]; exact new_block _)
  have PX := Lib.hid (show wb.heap[w.heap.size]? = some (.cells #[.slice ga gn gc, .slice la ln lc] 46 (0, 0)) by rw [hwb]; exact heap_alloc_new w _)
  obtain ⟨k0, k1⟩ := Spn.c2 PX.out
  have V := Lib.hid (refvalid_no (HR.out.keep B0.out) no)
  go_upto_region 1 with fail
  rw [← hwb]
  clear hwb
  go_wp2_with fail
  refine V.out.mono ?_
  rintro e w1 ⟨rfl, hb⟩
  clear k0 k1 V
  have B1 := Lib.hid (Buf.then_ B0.out hb)
  obtain ⟨k0, k1⟩ := Spn.c2 (hop hb PX.out)
  clear hb PX HR no
  go_wp2_with fail
  go_ret2
  exact ⟨rfl, by first | exact B1.out | exact Buf.below_drewN B1.out _⟩
set_option maxHeartbeats 4000000 in
set_option maxRecDepth 100000 in
theorem refaccept_rng {w : World} {vg vl : Value} {G L : LP} (h : Rq w vg vl G L) (q : Int) (no : OkR G L) (rng : q < 0 ∨ 1073741824 < q) :
    Calls Try.prog 40 #[.agg #[vg, vl], .int .i64 q] w fun e w' => e = .returned (.tuple #[.agg #[.slice none 0 0, .slice none 0 0], .bool false, .int .i64 2]) ∧ Below w.heap.size w w' := by
  obtain ⟨ga, gn, gc, la, ln, lc, rfl, rfl⟩ := h.form
  have HR := Lib.hid h
  clear h
  go_enter Try.func40, Try.ntmps40
  obtain ⟨wb, hwb⟩ : ∃ wb, wb = (w.alloc (.cells #[.slice ga gn gc, .slice la ln lc] 46)).alloc (.cells #[.slice none 0 0, .slice none 0 0] 46) := ⟨_, rfl⟩
  have B0 := Lib.hid (show Below w.heap.size w wb by rw [hwb]; exact Buf.then_ (new_block _) (new_block _))
  have PX := Lib.hid (show wb.heap[w.heap.size]? = some (.cells #[.slice ga gn gc, .slice la ln lc] 46 (0, 0)) by rw [hwb]; exact hop (new_block _) (heap_alloc_new w _))
  have PY := Lib.hid (show wb.heap[w.heap.size + 1]? = some (.cells #[.slice none 0 0, .slice none 0 0] 46 (0, 0)) by
    have e : (w.alloc (.cells #[.slice ga gn gc, .slice la ln lc] 46)).heap.size = w.heap.size + 1 := by simp
    rw [hwb, ← e]; exact heap_alloc_new _ _)
  obtain ⟨k0, k1⟩ := Spn.c2 PX.out
  have V := Lib.hid (refvalid11_yes ((HR.out.keep B0.out).rc no))
  go_upto_region 1 with fail
  rw [← hwb]
  clear hwb
  go_wp2_with fail
  refine V.out.mono ?_
  rintro e w1 ⟨rfl, hb⟩
  clear k0 k1 V
  have B1 := Lib.hid (Buf.then_ B0.out hb)
  obtain ⟨k0, k1⟩ := Spn.c2 (hop hb PX.out)
  obtain ⟨k2, k3⟩ := Spn.c2 (hop hb PY.out)
  have f0 := frozen_of_row w1 (w.heap.size + 1) 0 _ _ (hop hb PY.out)
  have f1 := frozen_of_row w1 (w.heap.size + 1) 1 _ _ (hop hb PY.out)
  clear hb PX HR no PY
  go_wp2_with (go_at_call 62; refine (refin_no _ _ _ _ (by omega)).mono ?_; rintro e w2 ⟨rfl, rfl⟩)
  refine bodyPost_ret (v := .tuple #[.agg #[.slice none 0 0, .slice none 0 0], .bool false, .int .i64 2]) (by simp [results, Try.results40, go_sem, k2, k3]) rfl ⟨rfl, ?_⟩
  first | exact B1.out | exact Buf.below_drewN B1.out _ | exact (B1.out.setCell (p := ⟨w.heap.size + 1, 0, none⟩) (Nat.le_succ _) _).setCell (p := ⟨w.heap.size + 1, 1, none⟩) (Nat.le_succ _) _ | exact ((Buf.below_drewN B1.out _).setCell (p := ⟨w.heap.size + 1, 0, none⟩) (Nat.le_succ _) _).setCell (p := ⟨w.heap.size + 1, 1, none⟩) (Nat.le_succ _) _
set_option maxHeartbeats 4000000 in
set_option maxRecDepth 100000 in
theorem reflose_rng {w : World} {vg vl : Value} {G L : LP} (h : Rq w vg vl G L) (q : Int) (no : OkR G L) (rng : q < 0 ∨ 1073741825 < q) :
    Calls Try.prog 42 #[.agg #[vg, vl], .int .i64 q] w fun e w' => e = .returned (.tuple #[.agg #[.slice none 0 0, .slice none 0 0], .int .i64 2]) ∧ Below w.heap.size w w' := by
  obtain ⟨ga, gn, gc, la, ln, lc, rfl, rfl⟩ := h.form
  have HR := Lib.hid h
  clear h
  go_enter Try.func42, Try.ntmps42
  obtain ⟨wb, hwb⟩ : ∃ wb, wb = (w.alloc (.cells #[.slice ga gn gc, .slice la ln lc] 46)).alloc (.cells #[.slice none 0 0, .slice none 0 0] 46) := ⟨_, rfl⟩
  have B0 := Lib.hid (show Below w.heap.size w wb by rw [hwb]; exact Buf.then_ (new_block _) (new_block _))
  have PX := Lib.hid (show wb.heap[w.heap.size]? = some (.cells #[.slice ga gn gc, .slice la ln lc] 46 (0, 0)) by rw [hwb]; exact hop (new_block _) (heap_alloc_new w _))
  have PY := Lib.hid (show wb.heap[w.heap.size + 1]? = some (.cells #[.slice none 0 0, .slice none 0 0] 46 (0, 0)) by
    have e : (w.alloc (.cells #[.slice ga gn gc, .slice la ln lc] 46)).heap.size = w.heap.size + 1 := by simp
    rw [hwb, ← e]; exact heap_alloc_new _ _)
  obtain ⟨k0, k1⟩ := Spn.c2 PX.out
  have V := Lib.hid (refvalid11_yes ((HR.out.keep B0.out).rc no))
  go_upto_region 1 with fail
  rw [← hwb]
  clear hwb
  go_wp2_with fail
  refine V.out.mono ?_
  rintro e w1 ⟨rfl, hb⟩
  clear k0 k1 V
  have B1 := Lib.hid (Buf.then_ B0.out hb)
  obtain ⟨k0, k1⟩ := Spn.c2 (hop hb PX.out)
  obtain ⟨k2, k3⟩ := Spn.c2 (hop hb PY.out)
  have f0 := frozen_of_row w1 (w.heap.size + 1) 0 _ _ (hop hb PY.out)
  have f1 := frozen_of_row w1 (w.heap.size + 1) 1 _ _ (hop hb PY.out)
  clear hb PX HR no PY
  go_wp2_with (go_at_call 62; refine (refin_no _ _ _ _ (by omega)).mono ?_; rintro e w2 ⟨rfl, rfl⟩)
  refine bodyPost_ret (v := .tuple #[.agg #[.slice none 0 0, .slice none 0 0], .int .i64 2]) (by simp [results, Try.results42, go_sem, k2, k3]) rfl ⟨rfl, ?_⟩
  first | exact B1.out | exact Buf.below_drewN B1.out _ | exact (B1.out.setCell (p := ⟨w.heap.size + 1, 0, none⟩) (Nat.le_succ _) _).setCell (p := ⟨w.heap.size + 1, 1, none⟩) (Nat.le_succ _) _ | exact ((Buf.below_drewN B1.out _).setCell (p := ⟨w.heap.size + 1, 0, none⟩) (Nat.le_succ _) _).setCell (p := ⟨w.heap.size + 1, 1, none⟩) (Nat.le_succ _) _
set_option maxHeartbeats 4000000 in
set_option maxRecDepth 100000 in
theorem refmissing_rng {w : World} {vg vl : Value} {G L : LP} (h : Rq w vg vl G L) (q : Int) (no : OkR G L) (rng : q < 0 ∨ 1073741825 < q) :
    Calls Try.prog 45 #[.agg #[vg, vl], .int .i64 q] w fun e w' => e = .returned (.tuple #[.slice none 0 0, .int .i64 2]) ∧ Below w.heap.size w w' := by
  obtain ⟨ga, gn, gc, la, ln, lc, rfl, rfl⟩ := h.form
  have HR := Lib.hid h
  clear h
  go_enter Try.func45, Try.ntmps45
  obtain ⟨wb, hwb⟩ : ∃ wb, wb = w.alloc (.cells #[.slice ga gn gc, .slice la ln lc] 46) := ⟨_, rfl⟩
  have B0 := Lib.hid (show Below w.heap.size w wb by rw [hwb]; exact new_block _)
  have PX := Lib.hid (show wb.heap[w.heap.size]? = some (.cells #[.slice ga gn gc, .slice la ln lc] 46 (0, 0)) by rw [hwb]; exact heap_alloc_new w _)
  obtain ⟨k0, k1⟩ := Spn.c2 PX.out
  have V := Lib.hid (refvalid11_yes ((HR.out.keep B0.out).rc no))
  go_upto_region 1 with fail
  rw [← hwb]
  clear hwb
  go_wp2_with fail
  refine V.out.mono ?_
  rintro e w1 ⟨rfl, hb⟩
  clear k0 k1 V
  have B1 := Lib.hid (Buf.then_ B0.out hb)
  obtain ⟨k0, k1⟩ := Spn.c2 (hop hb PX.out)
  clear hb PX HR no
  go_wp2_with (go_at_call 62; refine (refin_no _ _ _ _ (by omega)).mono ?_; rintro e w2 ⟨rfl, rfl⟩)
  go_ret2
  exact ⟨rfl, by first | exact B1.out | exact Buf.below_drewN B1.out _⟩
end Rx
end Go.Proofs.Ytfmhfhggogjbkaa

/- The reference's High, both, Missing, Settled for any lists. -/
set_option linter.unusedVariables false
set_option linter.unusedSimpArgs false
namespace Go.Proofs.Ytfmhfhggogjbkaa
open Go.RowKit Dice Wi
namespace Rx
open Spn
open Sp (cells2 cells2_snoc cells2_get Spans own_kept own_below own_mono own_shape)
/-- The last span of a list in memory. -/
theorem last_of {w : World} {ad : Option Addr} {n c : Nat} {L : LP} (h : Itw w (.slice ad n c) L) (h0 : 0 < L.length) : ∃ m g o t, n = m + 1 ∧ m < c ∧ ad = some ⟨g, o, none⟩ ∧ g < w.heap.size ∧ w.cell? ⟨g, o + m * 2 + 1, none⟩ = some (.int .i64 t) ∧ endL L = t := by
  obtain ⟨hn, hc⟩ := Spn.Itw.len h
  obtain ⟨ad', c', e, _, hf⟩ := itw_form h
  injection e with e1 e2 e3
  subst e1
  have hm : L.length - 1 < L.length := by omega
  obtain ⟨g, o, ea, hg, _, k1⟩ := hf (L.length - 1) _ (List.getElem?_eq_getElem hm)
  refine ⟨L.length - 1, g, o, _, by omega, by omega, ea, hg, k1, ?_⟩
  unfold endL
  rw [List.getLast?_eq_getElem?, List.getElem?_eq_getElem hm]
theorem endP_of {L : LP} (h : VS L) : EndP (hasB L) (endL L) := by
  rcases Nat.eq_zero_or_pos L.length with h0 | h0
  · obtain rfl : L = [] := List.length_eq_zero_iff.1 h0
    exact ⟨by simp [endL], by simp [endL], fun x hx => by simp [hasB] at hx, .inl rfl⟩
  · have hm : L.length - 1 < L.length := by omega
    have hq : L[L.length - 1]? = some L[L.length - 1] := List.getElem?_eq_getElem hm
    have e : endL L = (L[L.length - 1]).2 := by
      unfold endL
      rw [List.getLast?_eq_getElem?, hq]
    have hi := h.2 _ (List.getElem_mem hm)
    have ho := h.1.at hq
    rw [e]
    refine ⟨by omega, hi.2, fun x hx => ?_, .inr (hasB_iff.2 ⟨_, List.getElem_mem hm, by omega, by omega⟩)⟩
    obtain ⟨r, hr, r1, r2⟩ := hasB_iff.1 hx
    obtain ⟨j, hj, rfl⟩ := List.mem_iff_getElem.1 hr
    have hj' : L[j]? = some L[j] := List.getElem?_eq_getElem _
    by_cases ej : j = L.length - 1
    · subst ej; exact r2
    · have := h.1.get (show j < L.length - 1 by omega) hj' hq
      omega
set_option maxHeartbeats 8000000 in
set_option maxRecDepth 100000 in
theorem refhigh_ok {w : World} {vg vl : Value} {G L : LP} (h : Rq w vg vl G L) (k : OkR G L) :
    Calls Try.prog 51 #[.agg #[vg, vl]] w fun e w' => (∃ t : Int, e = .returned (.int .i64 t) ∧ HighP (hasB G) (hasB L) t) ∧ Below w.heap.size w w' := by
  obtain ⟨ga, gn, gc, la, ln, lc, rfl, rfl⟩ := h.form
  have V := Lib.hid fun wx (hb : Below w.heap.size w wx) => refvalid11_yes ((h.keep hb).rc k)
  have HP := Lib.hid (high_max (endP_of k.1) (endP_of k.2.1))
  have HG := Lib.hid (endP_of k.1).1
  have HL := Lib.hid (endP_of k.2.1).1
  have g9 := h.g9
  have l9 := h.l9
  have PX := Lib.hid fun wb (e : wb = w.alloc (.cells #[.slice ga gn gc, .slice la ln lc] 46)) => (show wb.heap[w.heap.size]? = some (.cells #[.slice ga gn gc, .slice la ln lc] 46 (0, 0)) by rw [e]; exact heap_alloc_new w _)
  rcases Nat.eq_zero_or_pos G.length with g0 | g0
  · obtain rfl : G = [] := List.length_eq_zero_iff.1 g0
    obtain rfl : gn = 0 := (Spn.Itw.len h.got).1
    rcases Nat.eq_zero_or_pos L.length with l0 | l0
    · obtain rfl : L = [] := List.length_eq_zero_iff.1 l0
      obtain rfl : ln = 0 := (Spn.Itw.len h.lost).1
      rw [show endL ([] : LP) = 0 from rfl] at HP HG HL
      clear h k g0 l0
      go_enter Try.func51, Try.ntmps51
      obtain ⟨wb, hwb⟩ : ∃ wb, wb = w.alloc (.cells #[.slice ga 0 gc, .slice la 0 lc] 46) := ⟨_, rfl⟩
      have B0 : Below w.heap.size w wb := by rw [hwb]; exact new_block _
      obtain ⟨k0, k1⟩ := Spn.c2 (PX.out wb hwb)
      replace B0 := Lib.hid B0
      go_upto_region 1 with fail
      rw [← hwb]
      clear hwb PX
      go_wp2_with (go_at_call 49; refine (V.out _ B0.out).mono ?_; rintro e w1 ⟨rfl, hb⟩)
      go_ret
      exact ⟨⟨_, rfl, by have h1 := HG.out; have h2 := HL.out; have hh := HP.out; refine cast (congrArg _ ?_) hh; omega⟩, Buf.then_ B0.out hb⟩
    · obtain ⟨lm, lb, lo_, tl, e1, lmc, e2, ll, lk, e3⟩ := last_of h.lost l0
      subst e1 e2
      rw [e3] at HP HL
      have lm9 : lm + 1 ≤ 40 := by have := (Spn.Itw.len h.lost).1; omega
      rw [show endL ([] : LP) = 0 from rfl] at HP HG
      clear h k g0 l0
      go_enter Try.func51, Try.ntmps51
      obtain ⟨wb, hwb⟩ : ∃ wb, wb = w.alloc (.cells #[.slice ga 0 gc, .slice (some ⟨lb, lo_, none⟩) (lm + 1) lc] 46) := ⟨_, rfl⟩
      have B0 : Below w.heap.size w wb := by rw [hwb]; exact new_block _
      obtain ⟨k0, k1⟩ := Spn.c2 (PX.out wb hwb)
      have k3 := (B0.cell (p := ⟨lb, _, none⟩) ll).trans lk
      replace B0 := Lib.hid B0
      have dlm : ((lm + 1 : Nat) : Int) - 1 = (lm : Int) := by omega
      go_upto_region 1 with fail
      rw [← hwb]
      clear hwb PX
      go_wp2_with (go_at_call 49; refine (V.out _ B0.out).mono ?_; rintro e w1 ⟨rfl, hb⟩)
      go_ret
      exact ⟨⟨_, rfl, by have h1 := HG.out; have h2 := HL.out; have hh := HP.out; refine cast (congrArg _ ?_) hh; omega⟩, Buf.then_ B0.out hb⟩
  · obtain ⟨gm, gb, go_, tg, e1, gmc, e2, gl, gk, e3⟩ := last_of h.got g0
    subst e1 e2
    rw [e3] at HP HG
    have gm9 : gm + 1 ≤ 40 := by have := (Spn.Itw.len h.got).1; omega
    rcases Nat.eq_zero_or_pos L.length with l0 | l0
    · obtain rfl : L = [] := List.length_eq_zero_iff.1 l0
      obtain rfl : ln = 0 := (Spn.Itw.len h.lost).1
      rw [show endL ([] : LP) = 0 from rfl] at HP HL
      clear h k g0 l0
      go_enter Try.func51, Try.ntmps51
      obtain ⟨wb, hwb⟩ : ∃ wb, wb = w.alloc (.cells #[.slice (some ⟨gb, go_, none⟩) (gm + 1) gc, .slice la 0 lc] 46) := ⟨_, rfl⟩
      have B0 : Below w.heap.size w wb := by rw [hwb]; exact new_block _
      obtain ⟨k0, k1⟩ := Spn.c2 (PX.out wb hwb)
      have k2 := (B0.cell (p := ⟨gb, _, none⟩) gl).trans gk
      replace B0 := Lib.hid B0
      have dgm : ((gm + 1 : Nat) : Int) - 1 = (gm : Int) := by omega
      go_upto_region 1 with fail
      rw [← hwb]
      clear hwb PX
      go_wp2_with (go_at_call 49; refine (V.out _ B0.out).mono ?_; rintro e w1 ⟨rfl, hb⟩)
      go_ret
      exact ⟨⟨_, rfl, by have h1 := HG.out; have h2 := HL.out; have hh := HP.out; refine cast (congrArg _ ?_) hh; omega⟩, Buf.then_ B0.out hb⟩
    · obtain ⟨lm, lb, lo_, tl, e1, lmc, e2, ll, lk, e3⟩ := last_of h.lost l0
      subst e1 e2
      rw [e3] at HP HL
      have lm9 : lm + 1 ≤ 40 := by have := (Spn.Itw.len h.lost).1; omega
      clear h k g0 l0
      go_enter Try.func51, Try.ntmps51
      obtain ⟨wb, hwb⟩ : ∃ wb, wb = w.alloc (.cells #[.slice (some ⟨gb, go_, none⟩) (gm + 1) gc, .slice (some ⟨lb, lo_, none⟩) (lm + 1) lc] 46) := ⟨_, rfl⟩
      have B0 : Below w.heap.size w wb := by rw [hwb]; exact new_block _
      obtain ⟨k0, k1⟩ := Spn.c2 (PX.out wb hwb)
      have k2 := (B0.cell (p := ⟨gb, _, none⟩) gl).trans gk
      have k3 := (B0.cell (p := ⟨lb, _, none⟩) ll).trans lk
      replace B0 := Lib.hid B0
      have dgm : ((gm + 1 : Nat) : Int) - 1 = (gm : Int) := by omega
      have dlm : ((lm + 1 : Nat) : Int) - 1 = (lm : Int) := by omega
      go_upto_region 1 with fail
      rw [← hwb]
      clear hwb PX
      go_wp2_with (go_at_call 49; refine (V.out _ B0.out).mono ?_; rintro e w1 ⟨rfl, hb⟩)
      go_ret
      exact ⟨⟨_, rfl, by have h1 := HG.out; have h2 := HL.out; have hh := HP.out; refine cast (congrArg _ ?_) hh; omega⟩, Buf.then_ B0.out hb⟩
set_option maxHeartbeats 8000000 in
set_option maxRecDepth 100000 in
theorem refhigh_no {w : World} {vg vl : Value} {G L : LP} (h : Rq w vg vl G L) (k : ¬ OkR G L) :
    Calls Try.prog 51 #[.agg #[vg, vl]] w fun e w' => e = .returned (.int .i64 0) ∧ Below w.heap.size w w' := by
  obtain ⟨ga, gn, gc, la, ln, lc, rfl, rfl⟩ := h.form
  have V := Lib.hid fun wx (hb : Below w.heap.size w wx) => refvalid_no (h.keep hb) k
  have g9 := h.g9
  have l9 := h.l9
  have PX := Lib.hid fun wb (e : wb = w.alloc (.cells #[.slice ga gn gc, .slice la ln lc] 46)) => (show wb.heap[w.heap.size]? = some (.cells #[.slice ga gn gc, .slice la ln lc] 46 (0, 0)) by rw [e]; exact heap_alloc_new w _)
  rcases Nat.eq_zero_or_pos G.length with g0 | g0
  · obtain rfl : G = [] := List.length_eq_zero_iff.1 g0
    obtain rfl : gn = 0 := (Spn.Itw.len h.got).1
    rcases Nat.eq_zero_or_pos L.length with l0 | l0
    · obtain rfl : L = [] := List.length_eq_zero_iff.1 l0
      obtain rfl : ln = 0 := (Spn.Itw.len h.lost).1
      clear h k g0 l0
      go_enter Try.func51, Try.ntmps51
      obtain ⟨wb, hwb⟩ : ∃ wb, wb = w.alloc (.cells #[.slice ga 0 gc, .slice la 0 lc] 46) := ⟨_, rfl⟩
      have B0 : Below w.heap.size w wb := by rw [hwb]; exact new_block _
      obtain ⟨k0, k1⟩ := Spn.c2 (PX.out wb hwb)
      replace B0 := Lib.hid B0
      go_upto_region 1 with fail
      rw [← hwb]
      clear hwb PX
      go_wp2_with (go_at_call 49; refine (V.out _ B0.out).mono ?_; rintro e w1 ⟨rfl, hb⟩)
      go_ret
      exact ⟨rfl, Buf.then_ B0.out hb⟩
    · obtain ⟨lm, lb, lo_, tl, e1, lmc, e2, ll, lk, e3⟩ := last_of h.lost l0
      subst e1 e2
      have lm9 : lm + 1 ≤ 40 := by have := (Spn.Itw.len h.lost).1; omega
      clear h k g0 l0
      go_enter Try.func51, Try.ntmps51
      obtain ⟨wb, hwb⟩ : ∃ wb, wb = w.alloc (.cells #[.slice ga 0 gc, .slice (some ⟨lb, lo_, none⟩) (lm + 1) lc] 46) := ⟨_, rfl⟩
      have B0 : Below w.heap.size w wb := by rw [hwb]; exact new_block _
      obtain ⟨k0, k1⟩ := Spn.c2 (PX.out wb hwb)
      have k3 := (B0.cell (p := ⟨lb, _, none⟩) ll).trans lk
      replace B0 := Lib.hid B0
      have dlm : ((lm + 1 : Nat) : Int) - 1 = (lm : Int) := by omega
      go_upto_region 1 with fail
      rw [← hwb]
      clear hwb PX
      go_wp2_with (go_at_call 49; refine (V.out _ B0.out).mono ?_; rintro e w1 ⟨rfl, hb⟩)
      go_ret
      exact ⟨rfl, Buf.then_ B0.out hb⟩
  · obtain ⟨gm, gb, go_, tg, e1, gmc, e2, gl, gk, e3⟩ := last_of h.got g0
    subst e1 e2
    have gm9 : gm + 1 ≤ 40 := by have := (Spn.Itw.len h.got).1; omega
    rcases Nat.eq_zero_or_pos L.length with l0 | l0
    · obtain rfl : L = [] := List.length_eq_zero_iff.1 l0
      obtain rfl : ln = 0 := (Spn.Itw.len h.lost).1
      clear h k g0 l0
      go_enter Try.func51, Try.ntmps51
      obtain ⟨wb, hwb⟩ : ∃ wb, wb = w.alloc (.cells #[.slice (some ⟨gb, go_, none⟩) (gm + 1) gc, .slice la 0 lc] 46) := ⟨_, rfl⟩
      have B0 : Below w.heap.size w wb := by rw [hwb]; exact new_block _
      obtain ⟨k0, k1⟩ := Spn.c2 (PX.out wb hwb)
      have k2 := (B0.cell (p := ⟨gb, _, none⟩) gl).trans gk
      replace B0 := Lib.hid B0
      have dgm : ((gm + 1 : Nat) : Int) - 1 = (gm : Int) := by omega
      go_upto_region 1 with fail
      rw [← hwb]
      clear hwb PX
      go_wp2_with (go_at_call 49; refine (V.out _ B0.out).mono ?_; rintro e w1 ⟨rfl, hb⟩)
      go_ret
      exact ⟨rfl, Buf.then_ B0.out hb⟩
    · obtain ⟨lm, lb, lo_, tl, e1, lmc, e2, ll, lk, e3⟩ := last_of h.lost l0
      subst e1 e2
      have lm9 : lm + 1 ≤ 40 := by have := (Spn.Itw.len h.lost).1; omega
      clear h k g0 l0
      go_enter Try.func51, Try.ntmps51
      obtain ⟨wb, hwb⟩ : ∃ wb, wb = w.alloc (.cells #[.slice (some ⟨gb, go_, none⟩) (gm + 1) gc, .slice (some ⟨lb, lo_, none⟩) (lm + 1) lc] 46) := ⟨_, rfl⟩
      have B0 : Below w.heap.size w wb := by rw [hwb]; exact new_block _
      obtain ⟨k0, k1⟩ := Spn.c2 (PX.out wb hwb)
      have k2 := (B0.cell (p := ⟨gb, _, none⟩) gl).trans gk
      have k3 := (B0.cell (p := ⟨lb, _, none⟩) ll).trans lk
      replace B0 := Lib.hid B0
      have dgm : ((gm + 1 : Nat) : Int) - 1 = (gm : Int) := by omega
      have dlm : ((lm + 1 : Nat) : Int) - 1 = (lm : Int) := by omega
      go_upto_region 1 with fail
      rw [← hwb]
      clear hwb PX
      go_wp2_with (go_at_call 49; refine (V.out _ B0.out).mono ?_; rintro e w1 ⟨rfl, hb⟩)
      go_ret
      exact ⟨rfl, Buf.then_ B0.out hb⟩
set_option maxHeartbeats 4000000 in
theorem refboth_gen {w : World} {vg vl : Value} {G L : LP} (h : Rq w vg vl G L) :
    Calls Try.prog 68 #[.agg #[vg, vl]] w fun e w' => (∃ r N, e = .returned r ∧ Sp.Spans w' w.heap.size r N ∧ Is N (fun x => hasB G x || hasB L x) ∧ N.length ≤ G.length + L.length) ∧ Below w.heap.size w w' := by
  obtain ⟨ga, gn, gc, la, ln, lc, rfl, rfl⟩ := h.form
  have g9 := h.g9
  have l9 := h.l9
  have U := Lib.hid fun wx (hb : Below w.heap.size w wx) => refunion_anyw (h.keep hb).got (h.keep hb).lost (by omega) (by omega)
  clear h
  go_enter Try.func68, Try.ntmps68
  obtain ⟨wb, hwb⟩ : ∃ wb, wb = w.alloc (.cells #[.slice ga gn gc, .slice la ln lc] 46) := ⟨_, rfl⟩
  have B0 := Lib.hid (show Below w.heap.size w wb by rw [hwb]; exact new_block _)
  obtain ⟨k0, k1⟩ := Spn.c2 (show wb.heap[w.heap.size]? = some (.cells #[.slice ga gn gc, .slice la ln lc] 46 (0, 0)) by rw [hwb]; exact heap_alloc_new w _)
  go_upto_region 1 with fail
  rw [← hwb]
  clear hwb
  go_wp2_with (go_at_call 17; refine (U.out _ B0.out).mono ?_; rintro e w1 ⟨⟨r, N, rfl, O, I, l⟩, hb⟩)
  go_ret
  exact ⟨⟨_, N, rfl, own_mono O B0.out.size, I, l⟩, Buf.then_ B0.out hb⟩
theorem rw_both {w : World} {B : Nat} {v : Value} {G L N : LP} (k : OkR G L) (O : Sp.Spans w B v N) (I : Is N (fun x => hasB G x || hasB L x)) (hl : N.length ≤ 80) : Rw w v (fun x => hasB G x || hasB L x) 80 :=
  ⟨N, (its_of_own O).wide, I.has, hl, in_ofw I.canon fun x hx => by
    rw [I.has] at hx
    rcases Bool.or_eq_true_iff.1 hx with h | h
    · exact bd_ofw k.1.2 h
    · exact bd_ofw k.2.1.2 h⟩
/-- What the reference's Missing returns. -/
def MisQ (G L : LP) (q : Int) (w : World) (e : Ending) : Prop := ∃ v t, e = .returned (.tuple #[v, .int .i64 0]) ∧ TopP (hasB G) (hasB L) q t ∧ Sw w v (fun x => decide (0 ≤ x ∧ x < t) && !(hasB G x || hasB L x)) (80 + 2 * 1)
set_option maxHeartbeats 8000000 in
set_option maxRecDepth 100000 in
theorem refmissing_ok {w : World} {vg vl : Value} {G L : LP} (h : Rq w vg vl G L) (ok : OkR G L) (q : Int) (q0 : 0 ≤ q) (q9 : q ≤ 1073741825) :
    Calls Try.prog 45 #[.agg #[vg, vl], .int .i64 q] w fun e w' => MisQ G L q w' e ∧ Below w.heap.size w w' := by
  obtain ⟨ga, gn, gc, la, ln, lc, rfl, rfl⟩ := h.form
  have g9 := h.g9
  have l9 := h.l9
  have HR := Lib.hid h
  have OK := Lib.hid ok
  clear h ok
  go_enter Try.func45, Try.ntmps45
  obtain ⟨bb, hbb⟩ : ∃ bb, bb = w.heap.size := ⟨_, rfl⟩
  obtain ⟨wb, hwb⟩ : ∃ wb, wb = w.alloc (.cells #[.slice ga gn gc, .slice la ln lc] 46) := ⟨_, rfl⟩
  have B0 := Lib.hid (show Below w.heap.size w wb by rw [hwb]; exact new_block _)
  have PX : wb.heap[bb]? = some (.cells #[.slice ga gn gc, .slice la ln lc] 46 (0, 0)) := by rw [hwb, hbb]; exact heap_alloc_new w _
  obtain ⟨k0, k1⟩ := c2 PX
  have V := Lib.hid (refvalid11_yes ((HR.out.keep B0.out).rc OK.out))
  have PX' := Lib.hid PX
  clear PX
  go_wp2_with fail
  rw [← hwb, ← hbb]
  refine V.out.mono ?_
  rintro e w1 ⟨rfl, hb⟩
  clear k0 k1 V
  replace PX' := Lib.hid (hop hb PX'.out)
  replace B0 := Lib.hid (Buf.then_ B0.out hb)
  clear hb
  replace hwb := Lib.hid hwb
  replace hbb := Lib.hid hbb
  go_upto_region 5 with (go_at_call 62; refine (refin_b _ _ _ _ (by omega) (by omega)).mono ?_; rintro e wS ⟨rfl, hweq⟩; subst hweq)
  have BS := B0
  have PBx := PX'
  have PB := Lib.hid fun wx (hb : Below wS.heap.size wS wx) => c2 (hop hb PBx.out)
  have RQ := Lib.hid fun wx (hb : Below wS.heap.size wS wx) => HR.out.keep (Buf.then_ BS.out hb)
  clear B0 PX' HR hbb hwb
  have hw0 : Below wS.heap.size wS wS.drew := (Below.refl _ _).drew
  refine wp_region_noPanic ?_
  refine wp_region_any (by kernel_rfl) ?_
  refine Inv.wpAny_inv (fun k => k == 9 || k == 10) [12, 13, 14, 15, 16, 17, 18, 19, 20] (fun w' => Below wS.heap.size wS w') (fun _ w1 w2 => Below w1.heap.size w1 w2) (fun k => ([fun v_ w_ => v_ = .int .i64 q, fun v_ w_ => v_ = .agg #[.slice ga gn gc, .slice la ln lc], fun v_ w_ => ∃ t : Int, v_ = .int .i64 t ∧ HighP (hasB G) (hasB L) t, fun v_ w_ => ∃ t : Int, v_ = .int .i64 t ∧ TopP (hasB G) (hasB L) q t, fun v_ w_ => ∃ t : Int, v_ = .agg #[.int .i64 0, .int .i64 t] ∧ TopP (hasB G) (hasB L) q t, fun v_ w_ => ∃ (h : Nat) (t : Int), v_ = .slice (some ⟨h, 0, none⟩) 1 1 ∧ TopP (hasB G) (hasB L) q t ∧ w_.heap[h]? = some (.cells #[.int .i64 0, .int .i64 t] 49 (0, 0)), fun v_ w_ => v_ = .agg #[.slice ga gn gc, .slice la ln lc], fun v_ w_ => ∃ a n c, v_ = .slice a n c ∧ Rw w_ (.slice a n c) (fun x => hasB G x || hasB L x) 80, fun v_ w_ => ∃ a n c, ∃ t : Int, v_ = .slice a n c ∧ TopP (hasB G) (hasB L) q t ∧ Sw w_ (.slice a n c) (fun x => decide (0 ≤ x ∧ x < t) && !(hasB G x || hasB L x)) (80 + 2 * 1), fun v_ w_ => True, fun v_ w_ => True] : List (Value → World → Prop)).getD k (fun _ _ => True)) _ (fun σ => by simp only [Inv.putAll, List.foldl_cons, List.foldl_nil, Act.put, List.setIfInBounds_toArray, List.set_cons_zero, List.set_cons_succ]; rfl) (by kernel_rfl) (by kernel_rfl) ?_ hw0 ?_ ?_ 2 #[true, true, true, true, true, true, true, true, true, false, false] (by kernel_rfl) (by kernel_rfl) ?_
  · intro j k v w1 w2 hjk hv hr
    rcases k with _ | k
    · exact hv
    rcases k with _ | k
    · exact hv
    rcases k with _ | k
    · exact hv
    rcases k with _ | k
    · exact hv
    rcases k with _ | k
    · exact hv
    rcases k with _ | k
    · exact by obtain ⟨h, t, e, h1, h2⟩ := hv; exact ⟨h, t, e, h1, hop hr h2⟩
    rcases k with _ | k
    · exact hv
    rcases k with _ | k
    · exact by obtain ⟨a, n, c, e, h⟩ := hv; exact ⟨a, n, c, e, h.keep hr⟩
    rcases k with _ | k
    · exact by obtain ⟨a, n, c, t, e, h1, h⟩ := hv; exact ⟨a, n, c, t, e, h1, h.keep hr⟩
    rcases k with _ | k
    · exact hv
    rcases k with _ | k
    · exact hv
    · exact hv
  · intro k t hl hd
    rcases k with _ | k
    · exact absurd hl (by decide +kernel)
    rcases k with _ | k
    · exact absurd hl (by decide +kernel)
    rcases k with _ | k
    · exact absurd hl (by decide +kernel)
    rcases k with _ | k
    · exact absurd hl (by decide +kernel)
    rcases k with _ | k
    · exact absurd hl (by decide +kernel)
    rcases k with _ | k
    · exact absurd hl (by decide +kernel)
    rcases k with _ | k
    · exact absurd hl (by decide +kernel)
    rcases k with _ | k
    · exact absurd hl (by decide +kernel)
    rcases k with _ | k
    · exact absurd hl (by decide +kernel)
    rcases k with _ | k
    · exact absurd hl (by decide +kernel)
    rcases k with _ | k
    · exact absurd hl (by decide +kernel)
    · simp at hd
  · show Inv.Steps _ _ _ _ _ _ _ _ [0, 1, 2, 3, 4, 5, 6, 7, 8]
    refine Inv.Steps.go (by decide) (by rfl) (fun σ wx hw hd K hK => ?_) ?_
    · simp only [List.getElem_toArray, List.getElem_cons_zero, List.getElem_cons_succ, Act.put, List.setIfInBounds_toArray, List.set_cons_zero, List.set_cons_succ] at hK ⊢
      go_simp
      exact hK.out _ _ hw (Below.refl _ _) (rfl)
    refine Inv.Steps.go (by decide) (by rfl) (fun σ wx hw hd K hK => ?_) ?_
    · simp only [List.getElem_toArray, List.getElem_cons_zero, List.getElem_cons_succ, Act.put, List.setIfInBounds_toArray, List.set_cons_zero, List.set_cons_succ] at hK ⊢
      obtain ⟨k0, k1_⟩ := PB.out _ hw
      go_simp
      exact hK.out _ _ hw (Below.refl _ _) (rfl)
    refine Inv.Steps.go (by decide) (by rfl) (fun σ wx hw hd K hK => ?_) ?_
    · obtain e13 : (σ 13) = .agg #[.slice ga gn gc, .slice la ln lc] := hd 1 (some 13) (by kernel_rfl) (by rfl)
      simp only [List.getElem_toArray, List.getElem_cons_zero, List.getElem_cons_succ, Act.put, List.setIfInBounds_toArray, List.set_cons_zero, List.set_cons_succ, e13] at hK ⊢
      go_simp
      go_at_call 51
      refine (refhigh_ok (RQ.out _ hw) OK.out).mono ?_
      rintro e w1 ⟨⟨t, rfl, hE⟩, hb⟩
      dsimp only
      exact hK.out _ _ (Buf.then_ hw hb) hb (⟨t, rfl, hE⟩)
    refine Inv.Steps.go (by decide) (by rfl) (fun σ wx hw hd K hK => ?_) ?_
    · obtain e12 : (σ 12) = .int .i64 q := hd 0 (some 12) (by kernel_rfl) (by rfl)
      obtain ⟨t1, e14, E1⟩ : ∃ t : Int, (σ 14) = .int .i64 t ∧ HighP (hasB G) (hasB L) t := hd 2 (some 14) (by kernel_rfl) (by rfl)
      simp only [List.getElem_toArray, List.getElem_cons_zero, List.getElem_cons_succ, Act.put, List.setIfInBounds_toArray, List.set_cons_zero, List.set_cons_succ, e12, e14] at hK ⊢
      go_simp
      exact hK.out _ _ hw (Below.refl _ _) (⟨_, rfl, E1.top q0 q9⟩)
    refine Inv.Steps.go (by decide) (by rfl) (fun σ wx hw hd K hK => ?_) ?_
    · obtain ⟨t3, e15, E3⟩ : ∃ t : Int, (σ 15) = .int .i64 t ∧ TopP (hasB G) (hasB L) q t := hd 3 (some 15) (by kernel_rfl) (by rfl)
      simp only [List.getElem_toArray, List.getElem_cons_zero, List.getElem_cons_succ, Act.put, List.setIfInBounds_toArray, List.set_cons_zero, List.set_cons_succ, e15] at hK ⊢
      go_simp
      exact hK.out _ _ hw (Below.refl _ _) (⟨_, rfl, E3⟩)
    refine Inv.Steps.go (by decide) (by rfl) (fun σ wx hw hd K hK => ?_) ?_
    · obtain ⟨t4, e16, E4⟩ : ∃ t : Int, (σ 16) = .agg #[.int .i64 0, .int .i64 t] ∧ TopP (hasB G) (hasB L) q t := hd 4 (some 16) (by kernel_rfl) (by rfl)
      simp only [List.getElem_toArray, List.getElem_cons_zero, List.getElem_cons_succ, Act.put, List.setIfInBounds_toArray, List.set_cons_zero, List.set_cons_succ, e16] at hK ⊢
      go_simp
      exact hK.out _ _ (Buf.then_ hw (new_block _)) (new_block _) (⟨_, _, rfl, E4, heap_alloc_new _ _⟩)
    refine Inv.Steps.go (by decide) (by rfl) (fun σ wx hw hd K hK => ?_) ?_
    · simp only [List.getElem_toArray, List.getElem_cons_zero, List.getElem_cons_succ, Act.put, List.setIfInBounds_toArray, List.set_cons_zero, List.set_cons_succ] at hK ⊢
      obtain ⟨k0, k1_⟩ := PB.out _ hw
      go_simp
      exact hK.out _ _ hw (Below.refl _ _) (rfl)
    refine Inv.Steps.go (by decide) (by rfl) (fun σ wx hw hd K hK => ?_) ?_
    · obtain e18 : (σ 18) = .agg #[.slice ga gn gc, .slice la ln lc] := hd 6 (some 18) (by kernel_rfl) (by rfl)
      simp only [List.getElem_toArray, List.getElem_cons_zero, List.getElem_cons_succ, Act.put, List.setIfInBounds_toArray, List.set_cons_zero, List.set_cons_succ, e18] at hK ⊢
      go_simp
      go_at_call 68
      refine (refboth_gen (RQ.out _ hw)).mono ?_
      rintro e w1 ⟨⟨r, N, rfl, hO, hI, hl⟩, hb⟩
      dsimp only
      obtain ⟨ra, rn, rc, rfl⟩ : ∃ a n c, r = .slice a n c := by obtain ⟨a, c, e, _⟩ := its_form (its_of_own hO); exact ⟨a, _, c, e⟩
      exact hK.out _ _ (Buf.then_ hw hb) hb (⟨_, _, _, rfl, rw_both OK.out hO hI (by omega)⟩)
    refine Inv.Steps.go (by decide) (by rfl) (fun σ wx hw hd K hK => ?_) ?_
    · obtain ⟨hh, t, e17, E5, P17⟩ : ∃ (h : Nat) (t : Int), (σ 17) = .slice (some ⟨h, 0, none⟩) 1 1 ∧ TopP (hasB G) (hasB L) q t ∧ wx.heap[h]? = some (.cells #[.int .i64 0, .int .i64 t] 49 (0, 0)) := hd 5 (some 17) (by kernel_rfl) (by rfl)
      obtain ⟨ua, un, uc, e19, S19⟩ : ∃ a n c, (σ 19) = .slice a n c ∧ Rw wx (.slice a n c) (fun x => hasB G x || hasB L x) 80 := hd 7 (some 19) (by kernel_rfl) (by rfl)
      simp only [List.getElem_toArray, List.getElem_cons_zero, List.getElem_cons_succ, Act.put, List.setIfInBounds_toArray, List.set_cons_zero, List.set_cons_succ, e17, e19] at hK ⊢
      go_simp
      go_at_call 21
      refine (refminus_sw (by obtain ⟨_, _, t9, _⟩ := id E5; exact rw_one P17 (Int.le_refl 0) t9) S19 (by omega) (by omega)).mono ?_
      rintro e w1 ⟨⟨r, rfl, hS⟩, hb⟩
      dsimp only
      obtain ⟨ra, rn, rc, rfl, _⟩ := Sw.form hS
      exact hK.out _ _ (Buf.then_ hw hb) hb (⟨_, _, _, t, rfl, E5, hS⟩)
    exact Inv.Steps.nil
  · intro σ wx hw hd
    obtain ⟨va, vn, vc, t, e20, E6, S20⟩ : ∃ a n c, ∃ t : Int, (σ 20) = .slice a n c ∧ TopP (hasB G) (hasB L) q t ∧ Sw wx (.slice a n c) (fun x => decide (0 ≤ x ∧ x < t) && !(hasB G x || hasB L x)) (80 + 2 * 1) := hd 8 (some 20) (by rfl) (by rfl)
    simp only [e20]
    refine Inv.one (i := 9) (by decide) (by kernel_rfl) (by rfl) (fun K hK => ?_)
    simp only [List.getElem_toArray, List.getElem_cons_zero, List.getElem_cons_succ, Act.put, List.setIfInBounds_toArray, List.set_cons_zero, List.set_cons_succ] at hK ⊢
    go_simp
    refine hK.out _ _ ?_
    clear hK K
    refine Inv.take (i := 10) (v := .int .i64 0) (by decide) rfl (by kernel_rfl) (by kernel_rfl) (by kernel_rfl) (fun _ _ _ h => h) (by rfl) (fun w' => ?_) ?_
    · simp only [List.getElem_toArray, List.getElem_cons_zero, List.getElem_cons_succ]
      go_simp
    try simp only [Act.put, List.setIfInBounds_toArray, List.set_cons_zero, List.set_cons_succ]
    refine Inv.done (by kernel_rfl) (NoPanic.normal ?_)
    go_wp2_with fail
    go_ret2
    exact ⟨⟨_, t, rfl, E6, S20⟩, Buf.then_ BS.out hw⟩
set_option maxHeartbeats 8000000 in
set_option maxRecDepth 100000 in
theorem refsettled_no {w : World} {vg vl : Value} {G L : LP} (h : Rq w vg vl G L) (no : ¬ OkR G L) :
    Calls Try.prog 53 #[.agg #[vg, vl]] w fun e w' => e = .returned (.int .i64 0) ∧ Below w.heap.size w w' := by
  obtain ⟨ga, gn, gc, la, ln, lc, rfl, rfl⟩ := h.form
  have HR := Lib.hid h
  clear h
  have V := Lib.hid fun wx (hb : Below w.heap.size w wx) => refvalid_no (HR.out.keep hb) no
  have U := Lib.hid fun wx (hb : Below w.heap.size w wx) => refboth_gen (HR.out.keep hb)
  go_enter Try.func53, Try.ntmps53
  obtain ⟨wb, hwb⟩ : ∃ wb, wb = w.alloc (.cells #[.slice ga gn gc, .slice la ln lc] 46) := ⟨_, rfl⟩
  have B0 := Lib.hid (show Below w.heap.size w wb by rw [hwb]; exact new_block _)
  have PX := Lib.hid (show wb.heap[w.heap.size]? = some (.cells #[.slice ga gn gc, .slice la ln lc] 46 (0, 0)) by rw [hwb]; exact heap_alloc_new w _)
  obtain ⟨k0, k1⟩ := Spn.c2 PX.out
  go_upto_region 1 with fail
  rw [← hwb]
  clear hwb HR no
  go_wp2_with fail
  refine (U.out _ B0.out).mono ?_
  rintro e w1 ⟨⟨r, N, rfl, O, I, l⟩, hb⟩
  obtain ⟨ra, rn, rc, rfl⟩ : ∃ a n c, r = .slice a n c := by obtain ⟨a, c, e, _⟩ := its_form (its_of_own O); exact ⟨a, _, c, e⟩
  have B1 := Lib.hid (Buf.then_ B0.out hb)
  clear k0 k1 O I l
  obtain ⟨k0, k1⟩ := Spn.c2 (hop hb PX.out)
  clear hb PX
  go_wp2_with fail
  refine (V.out _ B1.out).mono ?_
  rintro e w2 ⟨rfl, hb⟩
  go_wp2_with fail
  go_ret
  exact ⟨rfl, Buf.then_ B1.out hb⟩
set_option maxHeartbeats 8000000 in
set_option maxRecDepth 100000 in
theorem refsettled_ok {w : World} {vg vl : Value} {G L : LP} (h : Rq w vg vl G L) (ok : OkR G L) :
    Calls Try.prog 53 #[.agg #[vg, vl]] w fun e w' => (∃ s, e = .returned (.int .i64 s) ∧ SetP (hasB G) (hasB L) s) ∧ Below w.heap.size w w' := by
  obtain ⟨ga, gn, gc, la, ln, lc, rfl, rfl⟩ := h.form
  have g9 := h.g9
  have l9 := h.l9
  have HR := Lib.hid h
  clear h
  have OK := Lib.hid ok
  have V := Lib.hid fun wx (hb : Below w.heap.size w wx) => refvalid11_yes ((HR.out.keep hb).rc ok)
  have U := Lib.hid fun wx (hb : Below w.heap.size w wx) => refboth_gen (HR.out.keep hb)
  go_enter Try.func53, Try.ntmps53
  obtain ⟨wb, hwb⟩ : ∃ wb, wb = w.alloc (.cells #[.slice ga gn gc, .slice la ln lc] 46) := ⟨_, rfl⟩
  have B0 := Lib.hid (show Below w.heap.size w wb by rw [hwb]; exact new_block _)
  have PX := Lib.hid (show wb.heap[w.heap.size]? = some (.cells #[.slice ga gn gc, .slice la ln lc] 46 (0, 0)) by rw [hwb]; exact heap_alloc_new w _)
  obtain ⟨k0, k1⟩ := Spn.c2 PX.out
  go_upto_region 1 with fail
  rw [← hwb]
  clear hwb HR ok
  go_wp2_with fail
  refine (U.out _ B0.out).mono ?_
  rintro e w1 ⟨⟨r, N, rfl, O, I, l⟩, hb⟩
  have hS : Sw w1 r (fun x => hasB G x || hasB L x) 80 := by
    obtain ⟨N', s1, s2, s3, s4⟩ := rw_both OK.out O I (by omega)
    exact ⟨N, (its_of_own O).wide, I, by omega, in_ofw I.canon fun x hx => by rw [I.has] at hx; exact bd_ofw s4 ((s2 x).trans hx)⟩
  have B1 := Lib.hid (Buf.then_ B0.out hb)
  clear k0 k1 O I l
  obtain ⟨k0, k1⟩ := Spn.c2 (hop hb PX.out)
  clear hb PX
  rcases Sw.parts hS with ⟨⟨ad, c, rfl⟩, hf⟩ | ⟨gb, ob, c, n, f0, t0, f1, t1, rfl, hc, hg, hn, c0, c1, d0, d1, b1, b2, b3, b4, b5, b6, e1, e2, e3, e4, e5⟩
  · have HF := Lib.hid hf
    clear hf hS
    go_wp2_with fail
    refine (V.out _ B1.out).mono ?_
    rintro e w2 ⟨rfl, hb⟩
    go_wp2_with fail
    go_ret
    exact ⟨⟨0, rfl, by omega, by omega, fun x h1 h2 => by omega, HF.out 0⟩, Buf.then_ B1.out hb⟩
  · clear d0 d1 hS
    have E3 := Lib.hid e3
    have E4 := Lib.hid e4
    have E5 := Lib.hid e5
    have K := Lib.hid fun wx (hb : Below w1.heap.size w1 wx) => And.intro ((hb.cell (p := ⟨gb, _, none⟩) hg).trans c0) ((hb.cell (p := ⟨gb, _, none⟩) hg).trans c1)
    clear e1 e2 e3 e4 e5 c0 c1
    have eq0 : decide ((0 : Int) < ((n + 1 : Nat) : Int)) = true := decide_eq_true (by omega)
    have eq1 : decide ((0 : Int) < (n : Int) + 1) = true := decide_eq_true (by omega)
    have hc0 : 0 < c := by omega
    have hn0 : 0 < n + 1 := by omega
    go_wp2_with fail
    refine (V.out _ B1.out).mono ?_
    rintro e w2 ⟨rfl, hb⟩
    obtain ⟨c0, c1⟩ := K.out _ hb
    by_cases hf0 : f0 = 0
    · subst hf0
      go_wp2_with fail
      go_ret
      exact ⟨⟨t0, rfl, by omega, by omega, fun x h1 h2 => E4.out x h1 h2, E5.out⟩, Buf.then_ B1.out hb⟩
    · have hp : 0 < f0 := by omega
      have eq2 : (f0 == 0) = false := by simp; omega
      go_wp2_with fail
      go_ret
      exact ⟨⟨0, rfl, by omega, by omega, fun x h1 h2 => by omega, E3.out 0 hp⟩, Buf.then_ B1.out hb⟩
end Rx
end Go.Proofs.Ytfmhfhggogjbkaa
