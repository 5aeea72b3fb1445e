/- The reference's receivers for any lists: numbers, Valid, limited. -/
import Derived.Test.YtfmhfhggogjbkaaRxAD
set_option linter.unusedVariables false
set_option linter.unusedSimpArgs false
namespace Go.Proofs.Ytfmhfhggogjbkaa
open Go.RowKit Dice Wi
namespace Rx
open Spn
open Sp (cells2 cells2_snoc cells2_get Spans own_kept own_below own_mono own_shape)
set_option maxHeartbeats 4000000 in
set_option maxRecDepth 100000 in
theorem refnumbers_yes {w : World} {v : Value} {f0 : Int → Bool} (hS : Sw w v f0 40) :
    Calls Try.prog 70 #[v] w fun e w' => e = .returned (.bool true) ∧ Below w.heap.size w w' := by
  obtain ⟨L, h, hL, h9, hI⟩ := hS
  have hC := hL.canon
  have HV := Lib.hid fun (w' : World) (h' : Below w.heap.size w w') => refvalid08_anyw true (by simp [hC]) (h.keep h') (by omega)
  have II := Lib.hid hI
  clear hI hL
  obtain ⟨ad, c, rfl, hc, hf⟩ := itw_form h
  obtain ⟨n, hn⟩ : ∃ n, n = L.length := ⟨_, rfl⟩
  rw [← hn] at hc h9 ⊢
  replace hn := Lib.hid hn
  have F := Lib.hid hf
  have CC := Lib.hid hC
  have W0 := Lib.hid (Below.refl w.heap.size w)
  clear h hf hC
  rw [← hn.out] at HV
  go_enter Try.func70, Try.ntmps70
  go_wp2_with fail
  go_loopw [3] (fun i wr => ∃ kx : Nat, kx ≤ n ∧ i = .int .i64 kx ∧ Hid (Below w.heap.size w wr)) (fun i _ => n - (intOf i).toNat)
  case atStart => exact ⟨0, Nat.zero_le _, rfl, W0⟩
  case round =>
    clear W0
    obtain ⟨kx, hk, rfl, HB⟩ := hrel
    by_cases hlt : kx < n
    · obtain ⟨⟨f, t⟩, hp⟩ : ∃ p, L[kx]? = some p := ⟨L[kx]'(by rw [← hn.out]; exact hlt), List.getElem?_eq_getElem _⟩
      obtain ⟨g, o, rfl, hg, q0, q1⟩ := F.out kx _ hp
      have k0 := (HB.out.cell (p := ⟨g, _, none⟩) hg).trans q0
      have k1 := (HB.out.cell (p := ⟨g, _, none⟩) hg).trans q1
      have hin := II.out _ (List.mem_of_getElem? hp)
      dsimp only at k0 k1 hin
      obtain ⟨i1, i2⟩ := hin
      have b1 : (kx : Int) < n := by omega
      have d1 : decide (f < 0) = false := decide_eq_false (by omega)
      have d2 : decide (1073741825 < t) = false := decide_eq_false (by omega)
      clear q0 q1 hp
      go_wp2_with fail
      go_roundw
      case rel => exact ⟨kx + 1, by omega, by go_num, HB⟩
      case measure => simp [intOf]; omega
    · obtain rfl : kx = n := by omega
      go_wp2_with (go_at_call 25; with_reducible refine (HV.out _ HB.out).mono ?_; rintro e w1 ⟨rfl, hb⟩)
      go_ret
      exact ⟨rfl, Buf.then_ HB.out hb⟩
set_option maxHeartbeats 8000000 in
set_option maxRecDepth 100000 in
theorem refvalid11_yes {w : World} {vg vl : Value} {f g : Int → Bool} (h : Rc w vg vl f g) :
    Calls Try.prog 49 #[.agg #[vg, vl]] w fun e w' => e = .returned (.bool true) ∧ Below w.heap.size w w' := by
  obtain ⟨ga, gn, gc, rfl, _⟩ := Sw.form h.got
  obtain ⟨la, ln, lc, rfl, _⟩ := Sw.form h.lost
  have B0 := Lib.hid (new_block (w := w) (.cells #[.slice ga gn gc, .slice la ln lc] 46))
  have P0 := Lib.hid fun wx (hb : Below (w.alloc (.cells #[.slice ga gn gc, .slice la ln lc] 46)).heap.size (w.alloc (.cells #[.slice ga gn gc, .slice la ln lc] 46)) wx) => c2 (hop hb (heap_alloc_new w (.cells #[.slice ga gn gc, .slice la ln lc] 46)))
  have V1 := Lib.hid fun wx (hb : Below w.heap.size w wx) => refnumbers_yes (h.keep hb).got
  have V2 := Lib.hid fun wx (hb : Below w.heap.size w wx) => refnumbers_yes (h.keep hb).lost
  have M := Lib.hid fun wx (hb : Below w.heap.size w wx) => refmeet_sw (h.keep hb).got.rv (h.keep hb).lost.rv (by omega) (by omega)
  have AP := Lib.hid h.apart
  clear h
  go_enter Try.func49, Try.ntmps49
  obtain ⟨wb, hwb⟩ : ∃ wb, wb = w.alloc (.cells #[.slice ga gn gc, .slice la ln lc] 46) := ⟨_, rfl⟩
  rw [← hwb] at B0 P0
  obtain ⟨k0, k1⟩ := P0.out wb (Below.refl _ _)
  go_wp2_with fail
  rw [← hwb]
  refine (V1.out wb B0.out).mono ?_
  rintro e w1 ⟨rfl, hb⟩
  clear k0 k1
  have BB := Lib.hid (Buf.then_ (Below.refl _ _) hb)
  obtain ⟨k0, k1⟩ := P0.out w1 BB.out
  clear hb
  go_wp2_with fail
  refine (V2.out w1 (Buf.then_ B0.out BB.out)).mono ?_
  rintro e w2 ⟨rfl, hb⟩
  clear k0 k1
  replace BB := Lib.hid (Buf.then_ BB.out hb)
  obtain ⟨k0, k1⟩ := P0.out w2 BB.out
  clear hb
  go_wp2_with fail
  refine (M.out w2 (Buf.then_ B0.out BB.out)).mono ?_
  rintro e w3 ⟨⟨r, rfl, hS⟩, hb⟩
  obtain ⟨ra, rc, rfl⟩ := Sw.empty hS AP.out
  clear hS
  replace BB := Lib.hid (Buf.then_ (Buf.then_ B0.out BB.out) hb)
  clear hb
  go_wp2_with fail
  go_ret
  exact ⟨rfl, BB.out⟩
theorem reflimited_any (a a' : Option Addr) (n c n' c' : Nat) (hn : n ≤ 4096) (hn' : n' ≤ 4096) (w : World) :
    Calls Try.prog 66 #[.agg #[.slice a n c, .slice a' n' c']] w fun e w' => e = .returned (.tuple #[.agg #[.slice a n c, .slice a' n' c'], .int .i64 0]) ∧ Below w.heap.size w w' := by
  have h1 : ¬ (4096 < (n : Int)) := by omega
  have h2 : ¬ (4096 < (n' : Int)) := by omega
  go_enter Try.func66, Try.ntmps66
  obtain ⟨wb, hwb⟩ : ∃ wb, wb = (w.alloc (.cells #[.slice a n c, .slice a' n' c'] 46)).alloc (.cells #[.slice none 0 0, .slice none 0 0] 46) := ⟨_, rfl⟩
  have e1 : (w.alloc (.cells #[.slice a n c, .slice a' n' c'] 46)).heap.size = w.heap.size + 1 := by simp
  have P1 : wb.heap[w.heap.size]? = some (.cells #[.slice a n c, .slice a' n' c'] 46 (0, 0)) := by rw [hwb]; exact hop (new_block _) (heap_alloc_new w _)
  have P2 : wb.heap[w.heap.size + 1]? = some (.cells #[.slice none 0 0, .slice none 0 0] 46 (0, 0)) := by rw [hwb, ← e1]; exact heap_alloc_new _ _
  have BW := Lib.hid (show Below w.heap.size w wb by rw [hwb]; exact Buf.then_ (new_block _) (new_block _))
  go_upto_region 1 with fail
  rw [← hwb]
  clear hwb e1
  obtain ⟨k0, k1⟩ := Spn.c2 P1
  obtain ⟨k2, k3⟩ := Spn.c2 P2
  have f0 := frozen_of_row wb (w.heap.size + 1) 0 _ _ P2
  have f1 := frozen_of_row wb (w.heap.size + 1) 1 _ _ P2
  have Q8 := (heap_setCell_same wb (w.heap.size + 1) 0 _ _ (.slice a n c) P2).trans rfl
  have Z := Lib.hid ((heap_setCell_same (wb.setCell ⟨w.heap.size + 1, 0, none⟩ (.slice a n c)) (w.heap.size + 1) 1 _ _ (.slice a' n' c') Q8).trans rfl)
  have BZ := Lib.hid ((BW.out.setCell (p := ⟨w.heap.size + 1, 0, none⟩) (Nat.le_succ _) (.slice a n c)).setCell (p := ⟨w.heap.size + 1, 1, none⟩) (Nat.le_succ _) (.slice a' n' c'))
  clear Q8 P1 P2
  go_wp2_with fail
  obtain ⟨q0, q1⟩ := Spn.c2 Z.out
  refine bodyPost_ret (v := .tuple #[.agg #[.slice a n c, .slice a' n' c'], .int .i64 0]) (by simp [results, Try.results66, go_sem, q0, q1]) rfl ⟨rfl, BZ.out⟩
theorem sw_one {w : World} {b : Nat} {q t : Int} (h : w.heap[b]? = some (.cells #[.int .i64 q, .int .i64 t] 49 (0, 0))) (q0 : 0 ≤ q) (hq : q < t) (t9 : t ≤ 1073741825) : Sw w (.slice (some ⟨b, 0, none⟩) 1 1) (fun x => decide (q ≤ x ∧ x < t)) 40 := by
  refine ⟨[(q, t)], Spn.Its.wide (.inr ⟨b, 1, rfl, by simp, (Array.getElem?_eq_some_iff.1 h).1, fun k p hp => ?_⟩), ⟨canon_cons.2 ⟨hq, by simp, Canon.nil⟩, fun x => by simp [hasB]⟩, by simp, fun p hp => ?_⟩
  · cases k with
    | zero => simp at hp; subst hp; exact c2 h
    | succ k => simp at hp
  · simp at hp; subst hp; exact ⟨q0, t9⟩
end Rx
end Go.Proofs.Ytfmhfhggogjbkaa
