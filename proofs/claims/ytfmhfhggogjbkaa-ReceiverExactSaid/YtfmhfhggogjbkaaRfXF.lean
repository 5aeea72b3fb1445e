/- RfXF: texts joined. -/
import Derived.Test.YtfmhfhggogjbkaaSpXZ
import Derived.Test.YtfmhfhggogjbkaaRfNE
import Derived.Test.YtfmhfhggogjbkaaRfEMG
import Derived.RegionTactic
import Derived.Test.YtfmhfhggogjbkaaRfU
import Derived.Test.YtfmhfhggogjbkaaInv
/- The reference's near, Length, Cut, Valid at any numbers. -/
set_option linter.unusedVariables false
set_option linter.unusedSimpArgs false
namespace Go.Proofs.Ytfmhfhggogjbkaa
open Go.RowKit Dice
namespace Spn
open Sp (cells2 cells2_snoc cells2_get Spans own_kept own_below own_mono own_shape)
theorem refin_no (n lo hi : Int) (w : World) (h : ¬ (lo ≤ n ∧ n ≤ hi)) :
    Calls Try.prog 62 #[.int .i64 n, .int .i64 lo, .int .i64 hi] w fun e w' => e = .returned (.bool false) ∧ w' = w := by
  by_cases c : lo ≤ n
  · have d1 : decide (lo ≤ n) = true := decide_eq_true c
    have d2 : decide (n ≤ hi) = false := decide_eq_false (fun c2 => h ⟨c, c2⟩)
    go_enter Try.func62, Try.ntmps62
    go_wp2
    go_ret
    exact ⟨rfl, rfl⟩
  · have d1 : decide (lo ≤ n) = false := decide_eq_false c
    go_enter Try.func62, Try.ntmps62
    go_wp2
    go_ret
    exact ⟨rfl, rfl⟩
set_option maxHeartbeats 4000000 in
theorem near_gen {w : World} {B : Nat} {v : Value} {L : LP} (O : Spans w B v L) (hI : Near L) (hC : Canon L) (h9 : L.length ≤ 200) :
    Calls Try.prog 63 #[v] w fun e w' => e = .returned (.bool true) ∧ Below w.heap.size w w' := by
  obtain ⟨sa, sc, rfl⟩ := own_len O
  obtain ⟨n, hn⟩ : ∃ n, n = L.length := ⟨_, rfl⟩
  have FS := Lib.hid (fun (j : Nat) (p : Int × Int) (hj : L[j]? = some p) => own_get O hj)
  rw [← hn] at h9 FS ⊢
  replace hn := Lib.hid hn
  have B0 := Lib.hid (Below.refl w.heap.size w)
  clear O
  go_enter Try.func63, Try.ntmps63
  go_wp2_with fail
  go_loopw [3] (fun i wr => ∃ k : Nat, k ≤ n ∧ i = .int .i64 k ∧ Hid (Below w.heap.size w wr)) (fun i _ => n - (intOf i).toNat)
  case atStart => exact ⟨0, Nat.zero_le _, rfl, B0⟩
  case round =>
    clear B0
    obtain ⟨k, hk, rfl, HB⟩ := hrel
    by_cases hlt : k < n
    · obtain ⟨⟨f, t⟩, hp⟩ : ∃ p, L[k]? = some p := ⟨L[k]'(by rw [← hn.out]; exact hlt), List.getElem?_eq_getElem _⟩
      obtain ⟨hz1_, hz2_, g, rfl, hg, hgB, q0, q1, _⟩ := FS.out _ _ hp
      have hin := hI _ (List.mem_of_getElem? hp)
      have k0 := (HB.out.cell (p := ⟨g, _, none⟩) hg).trans q0
      have k1 := (HB.out.cell (p := ⟨g, _, none⟩) hg).trans q1
      dsimp only at k0 k1 hin
      have b1 : (k : Int) < n := by omega
      have hp' := Lib.hid hp
      have ft := hC.at hp
      simp only at ft
      clear q0 q1 hp hz1_
      obtain ⟨i1, i2⟩ := hin
      have F1 := Lib.hid fun w' => refin_b f (-1152921504606846976) 1152921504606846976 w' (by omega) (by omega)
      have F2 := Lib.hid fun w' => refin_b t (-1152921504606846976) 1152921504606846976 w' (by omega) (by omega)
      go_wp2_with (go_at_call 62; first
        | (with_reducible refine (F1.out _).mono ?_; rintro e w2 ⟨rfl, rfl⟩)
        | (with_reducible refine (F2.out _).mono ?_; rintro e w2 ⟨rfl, rfl⟩))
      go_roundw
      case rel => exact ⟨k + 1, by omega, by go_num, HB⟩
      case measure => simp [intOf]; omega
    · go_wp2_with fail
      go_ret
      exact ⟨rfl, HB.out⟩
set_option maxHeartbeats 4000000 in
theorem near_no {w : World} {B : Nat} {v : Value} {L : LP} (O : Spans w B v L) (hI : ¬ Near L) (hC : Canon L) (h9 : L.length ≤ 200) :
    Calls Try.prog 63 #[v] w fun e w' => e = .returned (.bool false) ∧ Below w.heap.size w w' := by
  obtain ⟨sa, sc, rfl⟩ := own_len O
  obtain ⟨n, hn⟩ : ∃ n, n = L.length := ⟨_, rfl⟩
  have FS := Lib.hid (fun (j : Nat) (p : Int × Int) (hj : L[j]? = some p) => own_get O hj)
  rw [← hn] at h9 FS ⊢
  replace hn := Lib.hid hn
  have B0 := Lib.hid (Below.refl w.heap.size w)
  have J0 : Hid (∀ (j : Nat) (p : Int × Int), j < 0 → L[j]? = some p → (-1152921504606846976 ≤ p.1 ∧ p.1 ≤ 1152921504606846976) ∧ (-1152921504606846976 ≤ p.2 ∧ p.2 ≤ 1152921504606846976)) := Lib.hid fun j p hj => absurd hj (Nat.not_lt_zero j)
  clear O
  go_enter Try.func63, Try.ntmps63
  go_wp2_with fail
  go_loopw [3] (fun i wr => ∃ k : Nat, k ≤ n ∧ i = .int .i64 k ∧ Hid (Below w.heap.size w wr) ∧ Hid (∀ (j : Nat) (p : Int × Int), j < k → L[j]? = some p → (-1152921504606846976 ≤ p.1 ∧ p.1 ≤ 1152921504606846976) ∧ (-1152921504606846976 ≤ p.2 ∧ p.2 ≤ 1152921504606846976))) (fun i _ => n - (intOf i).toNat)
  case atStart => exact ⟨0, Nat.zero_le _, rfl, B0, J0⟩
  case round =>
    clear B0 J0
    obtain ⟨k, hk, rfl, HB, HJ⟩ := hrel
    by_cases hlt : k < n
    · obtain ⟨⟨f, t⟩, hp⟩ : ∃ p, L[k]? = some p := ⟨L[k]'(by rw [← hn.out]; exact hlt), List.getElem?_eq_getElem _⟩
      obtain ⟨hz1_, hz2_, g, rfl, hg, hgB, q0, q1, _⟩ := FS.out _ _ hp
      have k0 := (HB.out.cell (p := ⟨g, _, none⟩) hg).trans q0
      have k1 := (HB.out.cell (p := ⟨g, _, none⟩) hg).trans q1
      dsimp only at k0 k1
      have b1 : (k : Int) < n := by omega
      replace hp := Lib.hid hp
      clear q0 q1 hz1_
      by_cases c1 : -1152921504606846976 ≤ f ∧ f ≤ 1152921504606846976
      · have F1 := Lib.hid fun w' => refin_b f (-1152921504606846976) 1152921504606846976 w' c1.1 c1.2
        by_cases c2 : -1152921504606846976 ≤ t ∧ t ≤ 1152921504606846976
        · have F2 := Lib.hid fun w' => refin_b t (-1152921504606846976) 1152921504606846976 w' c2.1 c2.2
          have NJ : Hid (∀ (j : Nat) (p : Int × Int), j < k + 1 → L[j]? = some p → (-1152921504606846976 ≤ p.1 ∧ p.1 ≤ 1152921504606846976) ∧ (-1152921504606846976 ≤ p.2 ∧ p.2 ≤ 1152921504606846976)) := Lib.hid fun j p hj hjp => by
            rcases Nat.lt_succ_iff_lt_or_eq.1 hj with h | rfl
            · exact HJ.out j p h hjp
            · have := hp.out; rw [this] at hjp; cases hjp; exact ⟨c1, c2⟩
          clear c1 c2 HJ
          go_wp2_with (go_at_call 62; first
            | (with_reducible refine (F1.out _).mono ?_; rintro e w2 ⟨rfl, rfl⟩)
            | (with_reducible refine (F2.out _).mono ?_; rintro e w2 ⟨rfl, rfl⟩))
          go_roundw
          case rel => exact ⟨k + 1, by omega, by go_num, HB, NJ⟩
          case measure => simp [intOf]; omega
        · have F2 := Lib.hid fun w' => refin_no t (-1152921504606846976) 1152921504606846976 w' c2
          clear c1 c2
          go_wp2_with (go_at_call 62; first
            | (with_reducible refine (F1.out _).mono ?_; rintro e w2 ⟨rfl, rfl⟩)
            | (with_reducible refine (F2.out _).mono ?_; rintro e w2 ⟨rfl, rfl⟩))
          go_ret
          exact ⟨rfl, HB.out⟩
      · have F1 := Lib.hid fun w' => refin_no f (-1152921504606846976) 1152921504606846976 w' c1
        clear c1
        go_wp2_with (go_at_call 62; (with_reducible refine (F1.out _).mono ?_); rintro e w2 ⟨rfl, rfl⟩)
        go_ret
        exact ⟨rfl, HB.out⟩
    · refine absurd (fun p hp => ?_) hI
      obtain ⟨j, hj, rfl⟩ := List.mem_iff_getElem.1 hp
      have := HJ.out j _ (by have := hn.out; omega) (List.getElem?_eq_getElem hj)
      exact ⟨this.1.1, this.2.2⟩
set_option maxHeartbeats 4000000 in
set_option maxRecDepth 100000 in
theorem reflength_gen {w : World} {v : Value} {L0 L : LP} (h : Its w v L0) (hN : Is L (hasB L0)) (hI : Near L) (h9 : L0.length ≤ 200) :
    Calls Try.prog 36 #[v] w fun e w' => e = .returned (.tuple #[.int .i64 (lenL L), .bool true]) ∧ Below w.heap.size w w' := by
  have NC := Lib.hid (refnormal_any h h9)
  have L0_ : lenL (L.take 0) = 0 := rfl
  have CC := Lib.hid hN.canon
  have II := Lib.hid hI
  obtain ⟨tl, htl⟩ : ∃ tl, tl = lenL L := ⟨_, rfl⟩
  rw [← htl]
  replace htl := Lib.hid htl
  replace hN := Lib.hid hN
  clear h hI
  go_enter Try.func36, Try.ntmps36
  go_wp2_with fail
  refine NC.out.mono ?_
  rintro e w1 ⟨⟨r, N', rfl, O, I', l'⟩, hb1⟩
  obtain rfl := Is.unique hN.out I'
  obtain ⟨n, hn⟩ : ∃ n, n = L.length := ⟨_, rfl⟩
  have h9 : n ≤ 200 := by omega
  replace hn := Lib.hid hn
  clear I' l'
  have NE := Lib.hid (near_gen O II.out CC.out (by rw [← hn.out]; exact h9))
  obtain ⟨sa, sc, rfl⟩ := own_len O
  rw [← hn.out] at O NE ⊢
  have FS := Lib.hid (fun (j : Nat) (p : Int × Int) (hj : L[j]? = some p) => own_get (L := L) (n := n) O hj)
  have B1 := Lib.hid hb1
  clear O hb1 NC
  go_wp2_with fail
  refine NE.out.mono ?_
  rintro e w2 ⟨rfl, hb2⟩
  have B2 := Lib.hid hb2
  clear hb2 NE
  have B0 := Lib.hid (Below.refl w2.heap.size w2)
  have T0 : Hid ((0 : Int) = lenL (L.take 0)) := Lib.hid rfl
  go_wp2_with fail
  go_loopw [5, 6] (fun s i wr => ∃ (k : Nat) (x : Int), k ≤ n ∧ s = .int .i64 x ∧ i = .int .i64 k ∧ Hid (x = lenL (L.take k)) ∧ 0 ≤ x ∧ x ≤ 2305843009213693952 ∧ Hid (Below w2.heap.size w2 wr)) (fun _ i _ => n - (intOf i).toNat)
  case atStart => exact ⟨0, 0, Nat.zero_le _, rfl, rfl, T0, by omega, by omega, B0⟩
  case round =>
    clear B0 T0
    obtain ⟨k, x, hk, rfl, rfl, hx, x0, x9, HB⟩ := hrel
    by_cases hlt : k < n
    · obtain ⟨⟨f, t⟩, hp⟩ : ∃ p, L[k]? = some p := ⟨L[k]'(by rw [← hn.out]; exact hlt), List.getElem?_eq_getElem _⟩
      obtain ⟨hz1_, hz2_, g, rfl, hg, hgB, q0, q1, _⟩ := FS.out _ _ hp
      have hin := II.out _ (List.mem_of_getElem? hp)
      have hg2 : g < w2.heap.size := Nat.lt_of_lt_of_le hg B2.out.size
      have k0 := (HB.out.cell (p := ⟨g, _, none⟩) hg2).trans ((B2.out.cell (p := ⟨g, _, none⟩) hg).trans q0)
      have k1 := (HB.out.cell (p := ⟨g, _, none⟩) hg2).trans ((B2.out.cell (p := ⟨g, _, none⟩) hg).trans q1)
      have ft := CC.out.at hp
      dsimp only at k0 k1 hin ft
      have b1 : (k : Int) < n := by omega
      have hs := lenL_succ L k _ hp
      rw [← hx.out] at hs
      have hbd := lenL_bounds CC.out (show (-1152921504606846976 : Int) ≤ 1152921504606846976 by decide) II.out (k + 1)
      rw [hs] at hbd
      simp only at hs hbd
      obtain ⟨y, hy⟩ : ∃ y, x + (t - f) = y := ⟨_, rfl⟩
      rw [hy] at hs hbd
      obtain ⟨i1, i2⟩ := hin
      obtain ⟨y0, y9⟩ := hbd
      have HS := Lib.hid hs.symm
      have w1_ : IntKind.i64.wrap (t - f) = t - f := IntWalk.i64_in _ (by omega)
      clear q0 q1 hp hz1_ hs hx
      go_wp2_with fail
      go_quiet (fail)
      go_wp2_with fail
      go_roundw
      case rel => exact ⟨k + 1, y, by omega, by first | rfl | exact congrArg _ hy, by go_num, HS, by omega, by omega, Lib.hid (by repeat (first | exact HB.out | refine Buf.below_drewN ?_ _))⟩
      case measure => simp [intOf]; omega
    · obtain rfl : k = n := by omega
      have hL : L.take k = L := List.take_of_length_le (by rw [← hn.out]; exact Nat.le_refl _)
      rw [hL, ← htl.out] at hx
      obtain rfl : x = tl := hx.out
      go_wp2_with fail
      go_ret2
      exact ⟨rfl, Buf.then_ (Buf.then_ B1.out B2.out) HB.out⟩
set_option maxHeartbeats 4000000 in
theorem reflength_no {w : World} {v : Value} {L0 L : LP} (h : Its w v L0) (hN : Is L (hasB L0)) (hI : ¬ Near L) (h9 : L0.length ≤ 200) :
    Calls Try.prog 36 #[v] w fun e w' => e = .returned (.tuple #[.int .i64 0, .bool false]) ∧ Below w.heap.size w w' := by
  have NC := Lib.hid (refnormal_any h h9)
  replace hN := Lib.hid hN
  replace hI := Lib.hid hI
  clear h
  go_enter Try.func36, Try.ntmps36
  go_wp2_with fail
  refine NC.out.mono ?_
  rintro e w1 ⟨⟨r, N', rfl, O, I', l'⟩, hb1⟩
  obtain rfl := Is.unique hN.out I'
  have NE := Lib.hid (near_no O hI.out I'.canon (by omega))
  have B1 := Lib.hid hb1
  obtain ⟨sa, sc, rfl⟩ := own_len O
  clear O I' l' hb1 NC
  go_wp2_with fail
  refine NE.out.mono ?_
  rintro e w2 ⟨rfl, hb2⟩
  go_wp2_with fail
  go_ret2
  exact ⟨rfl, Buf.then_ B1.out hb2⟩
set_option maxHeartbeats 2000000 in
theorem refcut_gen {w : World} {v : Value} {A : LP} (x y : Int) (h : Its w v A) (h9 : A.length ≤ 100) :
    Calls Try.prog 30 #[v, .int .i64 x, .int .i64 y] w fun e w' => (∃ r N, e = .returned r ∧ Spans w' w.heap.size r N ∧ Is N (fun z => hasB A z && decide (x ≤ z ∧ z < y)) ∧ N.length ≤ 20000) ∧ Below w.heap.size w w' := by
  have H := Lib.hid h
  clear h
  have W1 := Lib.hid (new_block (w := w) (.cells #[.int .i64 x, .int .i64 y] 49))
  have K := c2 (heap_alloc_new w (.cells #[.int .i64 x, .int .i64 y] 49))
  have I2 : Hid (Its (w.alloc (.cells #[.int .i64 x, .int .i64 y] 49)) (.slice (some ⟨w.heap.size, 0, none⟩) 1 1) [(x, y)]) := Lib.hid (.inr ⟨_, 1, rfl, Nat.le_refl _, by simp, fun k p hp => by
    have hk : k = 0 := by have := (List.getElem?_eq_some_iff.1 hp).1; simp at this; omega
    subst hk
    simp at hp
    subst hp
    exact K⟩)
  have C := Lib.hid (refmeet_gen (H.out.keep W1.out) I2.out (by omega) (by simp))
  clear K
  go_enter Try.func30, Try.ntmps30
  go_wp2_with (go_at_call 19; with_reducible refine C.out.mono ?_; rintro e w2 ⟨⟨r, N, rfl, O, I, hl⟩, b⟩)
  go_ret
  exact ⟨⟨_, N, rfl, own_mono O W1.out.size, I.congr fun z => by simp [hasB_cons, hasB_nil], hl⟩, Buf.then_ W1.out b⟩
end Spn
end Go.Proofs.Ytfmhfhggogjbkaa

/- The reference's Valid at any list. -/
set_option linter.unusedVariables false
set_option linter.unusedSimpArgs false
namespace Go.Proofs.Ytfmhfhggogjbkaa
open Go.RowKit Dice
namespace Spn
open Sp (cells2 cells2_snoc cells2_get Spans own_kept own_below own_mono own_shape)
set_option maxHeartbeats 4000000 in
set_option maxRecDepth 100000 in
theorem refvalid08_any {w : World} {v : Value} {L : LP} (r : Bool) (hr : r = true ↔ Canon L) (h : Its w v L) (h9 : L.length ≤ 200) :
    Calls Try.prog 25 #[v] w fun e w' => e = .returned (.bool r) ∧ Below w.heap.size w w' := by
  obtain ⟨ad, c, rfl, hc, hf⟩ := its_form h
  obtain ⟨n, hn⟩ : ∃ n, n = L.length := ⟨_, rfl⟩
  rw [← hn] at hc h9 ⊢
  replace hn := Lib.hid hn
  have F := Lib.hid hf
  have HR := Lib.hid hr
  have T0 : Hid (Canon (L.take 0)) := Lib.hid Canon.nil
  have W0 := Lib.hid (Below.refl w.heap.size w)
  clear h hf hr
  go_enter Try.func25, Try.ntmps25
  go_wp2_with fail
  go_loopw [3] (fun i wr => ∃ kx : Nat, kx ≤ n ∧ i = .int .i64 kx ∧ Hid (Below w.heap.size w wr) ∧ Hid (Canon (L.take kx))) (fun i _ => n - (intOf i).toNat)
  case atStart => exact ⟨0, Nat.zero_le _, rfl, W0, T0⟩
  case round =>
    clear W0 T0
    obtain ⟨kx, hk, rfl, HB, HT⟩ := hrel
    by_cases hlt : kx < n
    · obtain ⟨⟨f, t⟩, hp⟩ : ∃ p, L[kx]? = some p := ⟨L[kx]'(by rw [← hn.out]; exact hlt), List.getElem?_eq_getElem _⟩
      obtain ⟨g, rfl, hg, q0, q1⟩ := F.out kx _ hp
      have k0 := (HB.out.cell (p := ⟨g, _, none⟩) hg).trans q0
      have k1 := (HB.out.cell (p := ⟨g, _, none⟩) hg).trans q1
      dsimp only at k0 k1
      have b1 : (kx : Int) < n := by omega
      have hp' := Lib.hid hp
      by_cases hft : t ≤ f
      · obtain rfl : r = false := by
          rw [← Bool.not_eq_true, HR.out]
          intro hh
          have := hh.at hp'.out
          dsimp only at this
          omega
        have d1 : decide (t ≤ f) = true := decide_eq_true hft
        clear q0 q1 hp
        go_wp2_with fail
        go_quiet (fail)
        go_wp2_with fail
        go_ret
        exact ⟨rfl, by repeat (first | exact HB.out | refine Buf.below_drewN ?_ _)⟩
      have d1 : decide (t ≤ f) = false := decide_eq_false hft
      have ft : f < t := by omega
      clear hft
      rcases Nat.eq_zero_or_pos kx with hk0 | hk0
      · have d0 : decide ((0 : Int) < (kx : Int)) = false := decide_eq_false (by omega)
        have d0n : decide (0 < kx) = false := decide_eq_false (by omega)
        have NT : Hid (Canon (L.take (kx + 1))) := Lib.hid (canon_take_succ HT.out hp ft (fun j p hj => by omega))
        replace hk0 := Lib.hid hk0
        clear q0 q1 hp HT
        go_wp2_with fail
        go_quiet (fail)
        go_wp2_with fail
        go_roundw
        case rel => exact ⟨kx + 1, by omega, by go_num, Lib.hid (by repeat (first | exact HB.out | refine Buf.below_drewN ?_ _)), NT⟩
        case measure => simp [intOf]; omega
      · obtain ⟨k1', hk1⟩ : ∃ k1', k1' + 1 = kx := ⟨kx - 1, by omega⟩
        obtain ⟨⟨x, y⟩, hx⟩ : ∃ p, L[k1']? = some p := ⟨L[k1']'(by rw [← hn.out]; omega), List.getElem?_eq_getElem _⟩
        obtain ⟨g', eg, _, _, q3⟩ := F.out k1' _ hx
        cases eg
        have k3 := (HB.out.cell (p := ⟨g, _, none⟩) hg).trans q3
        dsimp only at k3
        have e1 : (kx : Int) - 1 = (k1' : Int) := by omega
        have bk : (k1' : Int) < (n : Int) := by omega
        have d0 : decide ((0 : Int) < (kx : Int)) = true := decide_eq_true (by omega)
        have d0n : decide (0 < kx) = true := decide_eq_true (by omega)
        by_cases fy : f ≤ y
        · obtain rfl : r = false := by
            rw [← Bool.not_eq_true, HR.out]
            intro hh
            have := hh.get (show k1' < kx by omega) hx hp
            dsimp only at this
            omega
          have d2 : decide (f ≤ y) = true := decide_eq_true fy
          replace hk1 := Lib.hid hk1
          clear q0 q1 q3 hp hx hk0
          go_wp2_with fail
          go_quiet (fail)
          go_wp2_with fail
          go_ret
          exact ⟨rfl, by repeat (first | exact HB.out | refine Buf.below_drewN ?_ _)⟩
        have d2 : decide (f ≤ y) = false := decide_eq_false fy
        have NT : Hid (Canon (L.take (kx + 1))) := Lib.hid (canon_take_succ HT.out hp ft (fun j p hj hjp => by
          obtain rfl : j = k1' := by omega
          rw [hx] at hjp; cases hjp; simp only; omega))
        replace hk1 := Lib.hid hk1
        clear q0 q1 q3 hp hx hk0 HT fy
        go_wp2_with fail
        go_quiet (fail)
        go_wp2_with fail
        go_roundw
        case rel => exact ⟨kx + 1, by omega, by go_num, Lib.hid (by repeat (first | exact HB.out | refine Buf.below_drewN ?_ _)), NT⟩
        case measure => simp [intOf]; omega
    · obtain rfl : kx = n := by omega
      obtain rfl : r = true := HR.out.2 (by have := HT.out; rw [take_all L kx (by rw [← hn.out]; exact Nat.le_refl _)] at this; exact this)
      go_wp2_with fail
      go_ret
      exact ⟨rfl, HB.out⟩
end Spn
end Go.Proofs.Ytfmhfhggogjbkaa

/- The reference's Shift at any numbers. -/
set_option linter.unusedVariables false
set_option linter.unusedSimpArgs false
namespace Go.Proofs.Ytfmhfhggogjbkaa
open Go.RowKit Dice
namespace Spn
open Sp (cells2 cells2_snoc cells2_get Spans own_kept own_below own_mono own_shape)
set_option maxHeartbeats 4000000 in
theorem refshift_no {w : World} {v : Value} {L N0 : LP} (d : Int) (h : Its w v L) (hN : Is N0 (hasB L)) (hI : ¬ Near N0 ∨ ¬ (-1152921504606846976 ≤ d ∧ d ≤ 1152921504606846976)) (h9 : L.length ≤ 200) :
    Calls Try.prog 34 #[v, .int .i64 d] w fun e w' => e = .returned (.tuple #[.slice none 0 0, .int .i64 2]) ∧ Below w.heap.size w w' := by
  have C1 := Lib.hid (refnormal_any h h9)
  replace hN := Lib.hid hN
  clear h
  by_cases c1 : -1152921504606846976 ≤ d ∧ d ≤ 1152921504606846976
  · have F1 := Lib.hid fun w' => refin_b d (-1152921504606846976) 1152921504606846976 w' c1.1 c1.2
    replace hI : ¬ Near N0 := hI.resolve_right (fun h => h c1)
    replace hI := Lib.hid hI
    clear c1
    go_enter Try.func34, Try.ntmps34
    go_wp2_with fail
    refine C1.out.mono ?_
    rintro e w1 ⟨⟨r, N, rfl, O, I, hl⟩, b1⟩
    obtain rfl := Is.unique hN.out I
    have NE := Lib.hid (near_no O hI.out I.canon (by omega))
    have B1 := Lib.hid b1
    obtain ⟨sa, sc, rfl⟩ := own_len O
    clear O I b1 C1 hl
    go_wp2_with (go_at_call 62; (with_reducible refine (F1.out _).mono ?_); rintro e w2 ⟨rfl, rfl⟩)
    refine NE.out.mono ?_
    rintro e w2 ⟨rfl, b2⟩
    go_wp2_with fail
    go_ret2
    exact ⟨rfl, Buf.then_ B1.out b2⟩
  · have F1 := Lib.hid fun w' => refin_no d (-1152921504606846976) 1152921504606846976 w' c1
    clear c1 hI
    go_enter Try.func34, Try.ntmps34
    go_wp2_with fail
    refine C1.out.mono ?_
    rintro e w1 ⟨⟨r, N, rfl, O, I, hl⟩, b1⟩
    have B1 := Lib.hid b1
    obtain ⟨sa, sc, rfl⟩ := own_len O
    clear O I b1 C1 hl
    go_wp2_with (go_at_call 62; (with_reducible refine (F1.out _).mono ?_); rintro e w2 ⟨rfl, rfl⟩)
    go_ret2
    exact ⟨rfl, B1.out⟩
set_option maxHeartbeats 4000000 in
set_option maxRecDepth 100000 in
theorem refshift_gen {w : World} {v : Value} {L N : LP} (d : Int) (h : Its w v L) (hN : Is N (hasB L)) (hI : Near N) (hd1 : -1152921504606846976 ≤ d) (hd2 : d ≤ 1152921504606846976) (h9 : L.length ≤ 200) :
    Calls Try.prog 34 #[v, .int .i64 d] w fun e w' => (∃ r, e = .returned (.tuple #[r, .int .i64 0]) ∧ Spans w' w.heap.size r (moveL N d)) ∧ Below w.heap.size w w' := by
  have C1 := Lib.hid (refnormal_any h h9)
  have F1 := Lib.hid fun w' => refin_b d (-1152921504606846976) 1152921504606846976 w' hd1 hd2
  replace hN := Lib.hid hN
  have HI := Lib.hid hI
  clear h hI
  go_enter Try.func34, Try.ntmps34
  go_wp2_with fail
  refine C1.out.mono ?_
  rintro e w1 ⟨⟨r, N', rfl, O, I, hl⟩, b1⟩
  obtain rfl := Is.unique hN.out I
  have NE := Lib.hid (near_gen O HI.out I.canon (by omega))
  have HC := Lib.hid I.canon
  have B1 := Lib.hid b1
  have hsh := own_shape O
  have HO := Lib.hid O
  have hn9 : N.length ≤ 200 := by omega
  clear O I b1 C1 hl
  rcases hsh with ⟨rfl, hn⟩ | ⟨g, c, rfl, hc, hg⟩
  · obtain rfl : N = [] := List.length_eq_zero_iff.1 hn
    go_wp2_with (go_at_call 62; (with_reducible refine (F1.out _).mono ?_); rintro e w2 ⟨rfl, rfl⟩)
    refine NE.out.mono ?_
    rintro e w2 ⟨rfl, b2⟩
    have B2 := Lib.hid (Buf.then_ B1.out b2)
    have O2 : Hid (Spans w2 w.heap.size (.slice none 0 0) (moveL [] d)) := Lib.hid (World.ownsRow_nil _ _ _ _)
    go_wp2_with fail
    go_loop [7] (fun i => i = .int .i64 0) (fun _ => 0)
    case atStart => rfl
    case round =>
      subst hrel
      go_wp2_with fail
      go_ret2
      exact ⟨⟨_, rfl, O2.out⟩, B2.out⟩
  · obtain ⟨n, hn⟩ : ∃ n, n = N.length := ⟨_, rfl⟩
    have hgB := (HO.out.lt g rfl).1
    rw [← hn] at hc hn9 NE ⊢
    have HO' := Lib.hid (show w1.ownsRow w.heap.size 49 2 (.slice (some ⟨g, 0, none⟩) n c) n (cells2 N) from by have := HO.out; unfold Spans at this; rw [← hn] at this; exact this)
    replace hn := Lib.hid hn
    go_wp2_with (go_at_call 62; (with_reducible refine (F1.out _).mono ?_); rintro e w2 ⟨rfl, rfl⟩)
    refine NE.out.mono ?_
    rintro e w2 ⟨rfl, b2⟩
    have B2 := Lib.hid (Buf.then_ B1.out b2)
    have O2 : Hid (w2.ownsRow w.heap.size 49 2 (.slice (some ⟨g, 0, none⟩) n c) n (cells2 (partL N d 0))) := Lib.hid (own_below (by simpa [partL, moveL] using HO'.out) b2)
    clear HO HO' b2 B1 NE
    go_wp2_with fail
    go_loopw [7] (fun i wr => ∃ kx : Nat, kx ≤ n ∧ i = .int .i64 kx ∧ Hid (wr.ownsRow w.heap.size 49 2 (.slice (some ⟨g, 0, none⟩) n c) n (cells2 (partL N d kx))) ∧ Hid (Below w.heap.size w wr)) (fun i _ => n - (intOf i).toNat)
    case atStart => exact ⟨0, Nat.zero_le _, rfl, O2, B2⟩
    case round =>
      clear O2 B2
      obtain ⟨kx, hk, rfl, HO, HB⟩ := hrel
      by_cases hlt : kx < n
      · obtain ⟨⟨f, t⟩, hp⟩ : ∃ p, N[kx]? = some p := ⟨N[kx]'(by rw [← hn.out]; exact hlt), List.getElem?_eq_getElem _⟩
        obtain ⟨p1, p2, p3⟩ := partL_at (d := d) hp
        have i1 := HI.out _ (List.mem_of_getElem? hp)
        have i2 := HC.out.at hp
        dsimp only at i1 i2
        have o1 := HO.out
        rw [p1] at o1
        obtain ⟨k0, k1⟩ := cells_at o1 kx p3 hlt
        have o2 := store_from (f + d) o1 kx p3
        have o3 := store_to (t + d) o2 kx p3
        rw [← p2] at o3
        obtain ⟨j0, j1⟩ := cells_at o2 kx p3 hlt
        have z1 := World.ownsRow.frozenAt o1 (kx * 2)
        have z0 := World.ownsRow.frozenAt o1 (kx * 2 + 1)
        have z2 := World.ownsRow.frozenAt o2 (kx * 2 + 1)
        have w1_ : IntKind.i64.wrap (f + d) = f + d := IntWalk.i64_in _ (by omega)
        have w2_ : IntKind.i64.wrap (t + d) = t + d := IntWalk.i64_in _ (by omega)
        have O3 := Lib.hid o3
        have B3 := Lib.hid ((HB.out.setCell (p := ⟨g, kx * 2, none⟩) hgB (.int .i64 (f + d))).setCell (p := ⟨g, kx * 2 + 1, none⟩) hgB (.int .i64 (t + d)))
        have b1 : (kx : Int) < n := by omega
        replace hp := Lib.hid hp
        clear o1 o2 o3 p1 p2 p3 HO HB i1 i2
        go_upto_region 7 with fail
        go_region
        all_goals go_wp2_with fail
        all_goals go_roundw
        all_goals first
          | (case rel => exact ⟨kx + 1, by omega, by go_num, Lib.hid (by repeat (first | exact O3.out | refine own_below ?_ (Below.refl _ _).drew)), Lib.hid (by repeat (first | exact B3.out | refine Below.drew ?_))⟩)
          | (case measure => simp [intOf]; omega)
      · obtain rfl : kx = n := by omega
        have e : Hid (partL N d kx = moveL N d) := Lib.hid (by unfold partL; rw [take_all N kx (by rw [hn.out]; exact Nat.le_refl _), List.drop_of_length_le (by rw [hn.out]; exact Nat.le_refl _)]; simp)
        have O4 : Hid (Spans wr w.heap.size (.slice (some ⟨g, 0, none⟩) kx c) (moveL N d)) := Lib.hid (by have := HO.out; rw [e.out] at this; unfold Spans; rw [moveL_length, ← hn.out]; exact this)
        go_wp2_with fail
        go_ret2
        exact ⟨⟨_, rfl, O4.out⟩, HB.out⟩
end Spn
end Go.Proofs.Ytfmhfhggogjbkaa

/- The reference's First at any numbers. -/
set_option linter.unusedVariables false
set_option linter.unusedSimpArgs false
namespace Go.Proofs.Ytfmhfhggogjbkaa
open Go.RowKit Dice
namespace Spn
open Sp (cells2 cells2_snoc cells2_get Spans own_kept own_below own_mono own_shape)
theorem firstL_none (l : LP) (n : Int) (h : n < 1) : firstL l n = [] := by cases l <;> simp [firstL, h]
set_option tactic.hygienic false in
set_option maxHeartbeats 8000000 in
set_option maxRecDepth 100000 in
theorem reffirst_gen {w : World} {v : Value} {L : LP} (n0 : Int) (h : Its w v L) (hI : Inside L (-9223372036854775808) 9223372036854775807) (h9 : L.length ≤ 200) (n00 : -9223372036854775808 ≤ n0) (n09 : n0 ≤ 9223372036854775807) :
    Calls Try.prog 32 #[v, .int .i64 n0] w fun e w' => (∃ r N, Is N (hasB L) ∧ N.length ≤ L.length ∧ e = .returned r ∧ Spans w' w.heap.size r (firstL N n0)) ∧ Below w.heap.size w w' := by
  obtain ⟨i0, hi, hz0, hz1, hz2⟩ := info_get infoS
  have C1 := Lib.hid (refnormal_any h h9)
  replace hI := Lib.hid hI
  clear h
  go_enter Try.func32, Try.ntmps32
  go_wp2_with fail
  refine C1.out.mono ?_
  rintro e w1 ⟨⟨r, N, rfl, O, I, hl⟩, b1⟩
  have HI := Lib.hid (I.inside hI.out)
  have HC := Lib.hid I.canon
  have HL := Lib.hid hl
  obtain ⟨xa, xc, rfl⟩ := own_len O
  obtain ⟨m, hn⟩ : ∃ m, m = N.length := ⟨_, rfl⟩
  rw [← hn] at hl O ⊢
  replace hn := Lib.hid hn
  have hn9 : m ≤ 200 := by omega
  have F := Lib.hid (fun (j : Nat) (p : Int × Int) (hj : N[j]? = some p) => own_get (L := N) (n := m) O hj)
  have B1 := Lib.hid b1
  have A0 := Lib.hid (Below.refl w1.heap.size w1)
  have Z0 : Hid (Spans w1 w1.heap.size (.slice none 0 0) []) := Lib.hid (World.ownsRow_nil _ _ _ _)
  replace I := Lib.hid I
  clear O b1 C1 hl h9
  go_wp2_with fail
  go_loopw [6, 7, 1] (fun s i x wr => ∃ (kx : Nat) (u : Int) (S : LP), kx ≤ m ∧ i = .int .i64 kx ∧ x = .int .i64 u ∧ -9223372036854775808 ≤ u ∧ u ≤ 9223372036854775807 ∧ S.length ≤ kx ∧ Hid (S ++ firstL (N.drop kx) u = firstL N n0) ∧ Hid (Spans wr w1.heap.size s S) ∧ Hid (Below w1.heap.size w1 wr)) (fun _ i _ _ => m - (intOf i).toNat)
  case atStart => exact ⟨0, n0, [], Nat.zero_le _, rfl, rfl, n00, n09, by simp, Lib.hid rfl, Z0, A0⟩
  case round =>
    clear A0 Z0
    obtain ⟨kx, u, S, hk, rfl, rfl, u0, u9, hSl, HF, OO, HB⟩ := hrel
    obtain ⟨sa, sc, rfl⟩ := own_len OO.out
    obtain ⟨nl, hnl'⟩ : ∃ nl, S.length = nl := ⟨_, rfl⟩
    have O4 := Lib.hid OO.out
    unfold Spans at O4
    rw [hnl'] at O4 OO hSl ⊢
    have hnl := Lib.hid hnl'
    clear hnl'
    by_cases hlt : kx < m
    · obtain ⟨⟨f, t⟩, hp⟩ : ∃ p, N[kx]? = some p := ⟨N[kx]'(by rw [← hn.out]; exact hlt), List.getElem?_eq_getElem _⟩
      have hstep := firstL_step hp u
      obtain ⟨hz1_, hz2_, g, hxa, hg, _, q0, q1, _⟩ := F.out _ _ hp
      have i1 := HI.out _ (List.mem_of_getElem? hp)
      have i2 := HC.out.at hp
      have KF := Lib.hid fun wx (hb : Below wr.heap.size wr wx) => ((Buf.then_ HB.out hb).cell (p := ⟨g, kx * 2, none⟩) hg).trans q0
      have k0 := (HB.out.cell (p := ⟨g, _, none⟩) hg).trans q0
      have k1 := (HB.out.cell (p := ⟨g, _, none⟩) hg).trans q1
      dsimp only at k0 k1 i1 i2 KF
      subst hxa
      have b1 : (kx : Int) < (m : Int) := by omega
      replace hp := Lib.hid hp
      clear q0 q1 hz1_
      by_cases hu : 0 < u
      · have d1 : decide (0 < u) = true := decide_eq_true hu
        have hu' : ¬ u < 1 := by omega
        obtain ⟨T, hT⟩ : ∃ T, T = t % 18446744073709551616 := ⟨_, rfl⟩
        obtain ⟨Fw, hFw⟩ : ∃ Fw, Fw = f % 18446744073709551616 := ⟨_, rfl⟩
        have v1 : IntKind.u64.wrap t = T := by rw [hT]; simp [IntKind.wrap, IntKind.bits, IntKind.signed]
        have v2 : IntKind.u64.wrap f = Fw := by rw [hFw]; simp [IntKind.wrap, IntKind.bits, IntKind.signed]
        have v3 : IntKind.u64.wrap (T - Fw) = t - f := by simp [IntKind.wrap, IntKind.bits, IntKind.signed]; omega
        have v4 : IntKind.u64.wrap u = u := by simp [IntKind.wrap, IntKind.bits, IntKind.signed]; omega
        clear hT hFw
        by_cases hd : u < t - f
        · have E1 : Hid ((S ++ [(f, f + u)]) ++ firstL (N.drop (kx + 1)) 0 = firstL N n0) := Lib.hid (by rw [← HF.out, hstep, if_neg hu', if_pos hd, firstL_none _ 0 (by omega)]; simp)
          clear HF hstep
          have d2 : decide (u < t - f) = true := decide_eq_true hd
          go_wp2_with fail
          go_quiet (fail)
          go_upto_region 8 with fail
          have hw0 : Below wr.heap.size wr (wr.drewN nq).drew := (Buf.below_drewN (Below.refl _ _) _).drew
          refine wp_region_noPanic ?_
          refine wp_region_any (by kernel_rfl) ?_
          refine Inv.wpAny_inv (fun k => k == 15 || k == 16) [38, 39, 40, 41, 42, 43, 44, 45, 46, 47, 48, 49, 50, 51, 52] (fun w' => Below wr.heap.size wr w') (fun _ w1 w2 => Below w1.heap.size w1 w2) (fun k => ([fun v_ w_ => v_ = .slice sa nl sc, fun v_ w_ => v_ = .slice (some ⟨g, 0, none⟩) m xc, fun v_ w_ => v_ = .int .i64 (kx : Int), fun v_ w_ => v_ = .pointer (some ⟨g, kx * 2, none⟩), fun v_ w_ => v_ = .pointer (some ⟨g, kx * 2, none⟩), fun v_ w_ => v_ = .int .i64 f, fun v_ w_ => v_ = .slice (some ⟨g, 0, none⟩) m xc, fun v_ w_ => v_ = .int .i64 (kx : Int), fun v_ w_ => v_ = .pointer (some ⟨g, kx * 2, none⟩), fun v_ w_ => v_ = .pointer (some ⟨g, kx * 2, none⟩), fun v_ w_ => v_ = .int .i64 f, fun v_ w_ => v_ = .int .i64 u, fun v_ w_ => v_ = .int .i64 (f + u), fun v_ w_ => v_ = .agg #[.int .i64 f, .int .i64 (f + u)], fun v_ w_ => ∃ b, v_ = .slice (some ⟨b, 0, none⟩) 1 1 ∧ w_.heap[b]? = some (.cells #[.int .i64 f, .int .i64 (f + u)] 49 (0, 0)), fun v_ w_ => True, fun v_ w_ => True] : List (Value → World → Prop)).getD k (fun _ _ => True)) _ (fun σ => by simp only [Inv.putAll, List.foldl_cons, List.foldl_nil, Act.put, List.setIfInBounds_toArray, List.set_cons_zero, List.set_cons_succ]; rfl) (by kernel_rfl) (by kernel_rfl) ?_ hw0 ?_ ?_ 2 #[true, true, true, true, true, true, true, true, true, true, true, true, true, true, true, false, false] (by kernel_rfl) (by kernel_rfl) ?_
          · intro j k v w1 w2 hjk hv hr
            rcases k with _ | k
            · exact hv
            rcases k with _ | k
            · exact hv
            rcases k with _ | k
            · exact hv
            rcases k with _ | k
            · exact hv
            rcases k with _ | k
            · exact hv
            rcases k with _ | k
            · exact hv
            rcases k with _ | k
            · exact hv
            rcases k with _ | k
            · exact hv
            rcases k with _ | k
            · exact hv
            rcases k with _ | k
            · exact hv
            rcases k with _ | k
            · exact hv
            rcases k with _ | k
            · exact hv
            rcases k with _ | k
            · exact hv
            rcases k with _ | k
            · exact hv
            rcases k with _ | k
            · exact by obtain ⟨b, e, h⟩ := hv; exact ⟨b, e, (hr.block b (Array.getElem?_eq_some_iff.1 h).1).trans h⟩
            rcases k with _ | k
            · exact hv
            rcases k with _ | k
            · exact hv
            · exact hv
          · intro k t hl hd
            rcases k with _ | k
            · exact absurd hl (by decide +kernel)
            rcases k with _ | k
            · exact absurd hl (by decide +kernel)
            rcases k with _ | k
            · exact absurd hl (by decide +kernel)
            rcases k with _ | k
            · exact absurd hl (by decide +kernel)
            rcases k with _ | k
            · exact absurd hl (by decide +kernel)
            rcases k with _ | k
            · exact absurd hl (by decide +kernel)
            rcases k with _ | k
            · exact absurd hl (by decide +kernel)
            rcases k with _ | k
            · exact absurd hl (by decide +kernel)
            rcases k with _ | k
            · exact absurd hl (by decide +kernel)
            rcases k with _ | k
            · exact absurd hl (by decide +kernel)
            rcases k with _ | k
            · exact absurd hl (by decide +kernel)
            rcases k with _ | k
            · exact absurd hl (by decide +kernel)
            rcases k with _ | k
            · exact absurd hl (by decide +kernel)
            rcases k with _ | k
            · exact absurd hl (by decide +kernel)
            rcases k with _ | k
            · exact absurd hl (by decide +kernel)
            rcases k with _ | k
            · exact absurd hl (by decide +kernel)
            rcases k with _ | k
            · exact absurd hl (by decide +kernel)
            · simp at hd
          · show Inv.Steps _ _ _ _ _ _ _ _ [0, 1, 2, 3, 4, 5, 6, 7, 8, 9, 10, 11, 12, 13, 14]
            refine Inv.Steps.go (by decide) (by rfl) (fun σ wx hw hd K hK => ?_) ?_
            · simp only [List.getElem_toArray, List.getElem_cons_zero, List.getElem_cons_succ, Act.put, List.setIfInBounds_toArray, List.set_cons_zero, List.set_cons_succ] at hK ⊢
              go_simp
              exact hK.out _ _ hw (Below.refl _ _) (rfl)
            refine Inv.Steps.go (by decide) (by rfl) (fun σ wx hw hd K hK => ?_) ?_
            · simp only [List.getElem_toArray, List.getElem_cons_zero, List.getElem_cons_succ, Act.put, List.setIfInBounds_toArray, List.set_cons_zero, List.set_cons_succ] at hK ⊢
              go_simp
              exact hK.out _ _ hw (Below.refl _ _) (rfl)
            refine Inv.Steps.go (by decide) (by rfl) (fun σ wx hw hd K hK => ?_) ?_
            · simp only [List.getElem_toArray, List.getElem_cons_zero, List.getElem_cons_succ, Act.put, List.setIfInBounds_toArray, List.set_cons_zero, List.set_cons_succ] at hK ⊢
              go_simp
              exact hK.out _ _ hw (Below.refl _ _) (rfl)
            refine Inv.Steps.go (by decide) (by rfl) (fun σ wx hw hd K hK => ?_) ?_
            · obtain e39 : (σ 39) = .slice (some ⟨g, 0, none⟩) m xc := hd 1 (some 39) (by kernel_rfl) (by rfl)
              obtain e40 : (σ 40) = .int .i64 (kx : Int) := hd 2 (some 40) (by kernel_rfl) (by rfl)
              simp only [List.getElem_toArray, List.getElem_cons_zero, List.getElem_cons_succ, Act.put, List.setIfInBounds_toArray, List.set_cons_zero, List.set_cons_succ, e39, e40] at hK ⊢
              go_simp
              exact hK.out _ _ hw (Below.refl _ _) (rfl)
            refine Inv.Steps.go (by decide) (by rfl) (fun σ wx hw hd K hK => ?_) ?_
            · obtain e41 : (σ 41) = .pointer (some ⟨g, kx * 2, none⟩) := hd 3 (some 41) (by kernel_rfl) (by rfl)
              simp only [List.getElem_toArray, List.getElem_cons_zero, List.getElem_cons_succ, Act.put, List.setIfInBounds_toArray, List.set_cons_zero, List.set_cons_succ, e41] at hK ⊢
              go_simp
              exact hK.out _ _ hw (Below.refl _ _) (rfl)
            refine Inv.Steps.go (by decide) (by rfl) (fun σ wx hw hd K hK => ?_) ?_
            · obtain e42 : (σ 42) = .pointer (some ⟨g, kx * 2, none⟩) := hd 4 (some 42) (by kernel_rfl) (by rfl)
              simp only [List.getElem_toArray, List.getElem_cons_zero, List.getElem_cons_succ, Act.put, List.setIfInBounds_toArray, List.set_cons_zero, List.set_cons_succ, e42] at hK ⊢
              have zc := KF.out _ hw
              go_simp
              exact hK.out _ _ hw (Below.refl _ _) (rfl)
            refine Inv.Steps.go (by decide) (by rfl) (fun σ wx hw hd K hK => ?_) ?_
            · simp only [List.getElem_toArray, List.getElem_cons_zero, List.getElem_cons_succ, Act.put, List.setIfInBounds_toArray, List.set_cons_zero, List.set_cons_succ] at hK ⊢
              go_simp
              exact hK.out _ _ hw (Below.refl _ _) (rfl)
            refine Inv.Steps.go (by decide) (by rfl) (fun σ wx hw hd K hK => ?_) ?_
            · simp only [List.getElem_toArray, List.getElem_cons_zero, List.getElem_cons_succ, Act.put, List.setIfInBounds_toArray, List.set_cons_zero, List.set_cons_succ] at hK ⊢
              go_simp
              exact hK.out _ _ hw (Below.refl _ _) (rfl)
            refine Inv.Steps.go (by decide) (by rfl) (fun σ wx hw hd K hK => ?_) ?_
            · obtain e44 : (σ 44) = .slice (some ⟨g, 0, none⟩) m xc := hd 6 (some 44) (by kernel_rfl) (by rfl)
              obtain e45 : (σ 45) = .int .i64 (kx : Int) := hd 7 (some 45) (by kernel_rfl) (by rfl)
              simp only [List.getElem_toArray, List.getElem_cons_zero, List.getElem_cons_succ, Act.put, List.setIfInBounds_toArray, List.set_cons_zero, List.set_cons_succ, e44, e45] at hK ⊢
              go_simp
              exact hK.out _ _ hw (Below.refl _ _) (rfl)
            refine Inv.Steps.go (by decide) (by rfl) (fun σ wx hw hd K hK => ?_) ?_
            · obtain e46 : (σ 46) = .pointer (some ⟨g, kx * 2, none⟩) := hd 8 (some 46) (by kernel_rfl) (by rfl)
              simp only [List.getElem_toArray, List.getElem_cons_zero, List.getElem_cons_succ, Act.put, List.setIfInBounds_toArray, List.set_cons_zero, List.set_cons_succ, e46] at hK ⊢
              go_simp
              exact hK.out _ _ hw (Below.refl _ _) (rfl)
            refine Inv.Steps.go (by decide) (by rfl) (fun σ wx hw hd K hK => ?_) ?_
            · obtain e47 : (σ 47) = .pointer (some ⟨g, kx * 2, none⟩) := hd 9 (some 47) (by kernel_rfl) (by rfl)
              simp only [List.getElem_toArray, List.getElem_cons_zero, List.getElem_cons_succ, Act.put, List.setIfInBounds_toArray, List.set_cons_zero, List.set_cons_succ, e47] at hK ⊢
              have zc := KF.out _ hw
              go_simp
              exact hK.out _ _ hw (Below.refl _ _) (rfl)
            refine Inv.Steps.go (by decide) (by rfl) (fun σ wx hw hd K hK => ?_) ?_
            · simp only [List.getElem_toArray, List.getElem_cons_zero, List.getElem_cons_succ, Act.put, List.setIfInBounds_toArray, List.set_cons_zero, List.set_cons_succ] at hK ⊢
              go_simp
              exact hK.out _ _ hw (Below.refl _ _) (rfl)
            refine Inv.Steps.go (by decide) (by rfl) (fun σ wx hw hd K hK => ?_) ?_
            · obtain e48 : (σ 48) = .int .i64 f := hd 10 (some 48) (by kernel_rfl) (by rfl)
              obtain e49 : (σ 49) = .int .i64 u := hd 11 (some 49) (by kernel_rfl) (by rfl)
              simp only [List.getElem_toArray, List.getElem_cons_zero, List.getElem_cons_succ, Act.put, List.setIfInBounds_toArray, List.set_cons_zero, List.set_cons_succ, e48, e49] at hK ⊢
              go_simp
              exact hK.out _ _ hw (Below.refl _ _) (congrArg (Value.int .i64) (IntWalk.i64_in _ (by omega)))
            refine Inv.Steps.go (by decide) (by rfl) (fun σ wx hw hd K hK => ?_) ?_
            · obtain e43 : (σ 43) = .int .i64 f := hd 5 (some 43) (by kernel_rfl) (by rfl)
              obtain e50 : (σ 50) = .int .i64 (f + u) := hd 12 (some 50) (by kernel_rfl) (by rfl)
              simp only [List.getElem_toArray, List.getElem_cons_zero, List.getElem_cons_succ, Act.put, List.setIfInBounds_toArray, List.set_cons_zero, List.set_cons_succ, e43, e50] at hK ⊢
              go_simp
              exact hK.out _ _ hw (Below.refl _ _) (rfl)
            refine Inv.Steps.go (by decide) (by rfl) (fun σ wx hw hd K hK => ?_) ?_
            · obtain e51 : (σ 51) = .agg #[.int .i64 f, .int .i64 (f + u)] := hd 13 (some 51) (by kernel_rfl) (by rfl)
              simp only [List.getElem_toArray, List.getElem_cons_zero, List.getElem_cons_succ, Act.put, List.setIfInBounds_toArray, List.set_cons_zero, List.set_cons_succ, e51] at hK ⊢
              go_simp
              exact hK.out _ _ (Buf.then_ hw (new_block _)) (new_block _) (⟨_, rfl, heap_alloc_new _ _⟩)
            exact Inv.Steps.nil
          · intro σ wx hw hd
            obtain e38 : (σ 38) = .slice sa nl sc := hd 0 (some 38) (by rfl) (by rfl)
            obtain ⟨bS, e52, PS⟩ : ∃ b, (σ 52) = .slice (some ⟨b, 0, none⟩) 1 1 ∧ wx.heap[b]? = some (.cells #[.int .i64 f, .int .i64 (f + u)] 49 (0, 0)) := hd 14 (some 52) (by rfl) (by rfl)
            simp only [e38, e52]
            refine Inv.one (i := 15) (by decide) (by kernel_rfl) (by rfl) (fun K hK => ?_)
            simp only [List.getElem_toArray, List.getElem_cons_zero, List.getElem_cons_succ, Act.put, List.setIfInBounds_toArray, List.set_cons_zero, List.set_cons_succ] at hK ⊢
            have IK : Its wx (.slice (some ⟨bS, 0, none⟩) 1 1) [(f, f + u)] := .inr ⟨bS, 1, rfl, by simp, (Array.getElem?_eq_some_iff.1 PS).1, fun k p hp => by cases k with | zero => (simp at hp; subst hp; exact c2 PS) | succ k => simp at hp⟩
            refine wp_spans (.tmp 38) (.tmp 52) rfl (by simp [Act.eval]) (by simp [Act.eval]) (own_below OO.out hw) IK (Nat.le_trans HB.out.size hw.size) (by have := hnl.out; simp; omega) ?_
            intro v' w' O2 G2
            refine hK.out _ _ ?_
            clear hK K hd IK PS
            have B5 := Lib.hid ((Buf.then_ HB.out hw).grown G2 (Nat.le_trans HB.out.size hw.size) (fun b hb => ((own_below OO.out hw).lt b hb).1))
            have O5 := Lib.hid O2
            clear O2 G2 hw
            refine Inv.take (i := 16) (v := v') (by decide) rfl (by kernel_rfl) (by kernel_rfl) (by kernel_rfl) (fun _ _ _ h => h) (by rfl) (fun w' => ?_) ?_
            · simp only [List.getElem_toArray, List.getElem_cons_zero, List.getElem_cons_succ]
              go_simp
            try simp only [Act.put, List.setIfInBounds_toArray, List.set_cons_zero, List.set_cons_succ]
            refine Inv.done (by kernel_rfl) (NoPanic.normal ?_)
            go_wp2_with fail
            go_roundw
            case rel => exact ⟨kx + 1, 0, S ++ [(f, f + u)], by omega, by go_num, rfl, by omega, by omega, by rw [List.length_append]; have := hnl.out; simp; omega, E1, O5, B5⟩
            case measure => simp [intOf]; omega
        · have E1 : Hid ((S ++ [(f, t)]) ++ firstL (N.drop (kx + 1)) (u - (t - f)) = firstL N n0) := Lib.hid (by rw [← HF.out, hstep, if_neg hu', if_neg hd]; simp)
          clear HF hstep
          have d2 : decide (u < t - f) = false := decide_eq_false hd
          have v6 : IntKind.i64.wrap (t - f) = t - f := IntWalk.i64_in _ (by omega)
          have v7 : IntKind.i64.wrap (u - (t - f)) = u - (t - f) := IntWalk.i64_in _ (by omega)
          go_wp2_with fail
          go_quiet (fail)
          go_upto_region 10 with fail
          obtain ⟨wp, hwp⟩ : ∃ wp, wp = wr.drewN nq := ⟨_, rfl⟩
          have bp := Lib.hid (show Below wr.heap.size wr wp by rw [hwp]; exact Buf.below_drewN (Below.refl _ _) _)
          have j0 : wp.cell? ⟨g, kx * 2, none⟩ = some (.int .i64 f) := by rw [hwp]; exact k0
          have j1 : wp.cell? ⟨g, kx * 2 + 1, none⟩ = some (.int .i64 t) := by rw [hwp]; exact k1
          rw [← hwp]
          clear hwp k0 k1
          have hb3 := Lib.hid (heap_alloc_new wp (.cells #[.int .i64 f, .int .i64 t] 49))
          have O3 := Lib.hid (own_below (own_below O4.out bp.out) (new_block (w := wp) (.cells #[.int .i64 f, .int .i64 t] 49)))
          have one : Hid (∀ u ∈ [Value.int .i64 f, .int .i64 t], u.oneCell' = true) := Lib.hid (by intro u hu; simp at hu; rcases hu with rfl | rfl <;> rfl)
          have hB3 := Lib.hid (show w1.heap.size ≤ (wp.alloc (.cells #[.int .i64 f, .int .i64 t] 49)).heap.size by have := HB.out.size; have := bp.out.size; simp; omega)
          go_wp2_with (at_builtin; refine wpList_append_lies _ rfl (.tmp 54) (.tmp 59) 23 rfl w1.heap.size 49 i0 (.agg #[.int .i64 0, .int .i64 0]) 2 16 Try.underlying23 hi hz0 hz1 hz2 rfl (by decide) _ nl (cells2 S) rfl O3.out ⟨wp.heap.size, 0, none⟩ 1 1 [.int .i64 f, .int .i64 t] rfl rfl (World.news_of_block hb3.out) one.out (by decide) (by unfold maxLen; omega) (by omega) hB3.out _ rfl ?_; intro gq cq w5 O2 G2 hg2 hl2)
          have O5 := Lib.hid (show Spans w5 w1.heap.size (.slice (some ⟨gq, 0, none⟩) (nl + 1) cq) (S ++ [(f, t)]) by
            unfold Spans
            rw [cells2_snoc, List.length_append, hnl.out]
            exact O2)
          have B5 := Lib.hid (show Below w1.heap.size w1 w5 from (Buf.then_ (Buf.then_ HB.out bp.out) (new_block (w := wp) (.cells #[.int .i64 f, .int .i64 t] 49))).grown G2 (by have := HB.out.size; have := bp.out.size; simp; omega) (fun b hb => (O3.out.lt b hb).1))
          clear O2 G2 hg2 hl2 O3 hb3 hB3 one j0 j1 bp O4 OO HB
          go_roundw
          case rel => exact ⟨kx + 1, u - (t - f), S ++ [(f, t)], by omega, by go_num, rfl, by omega, by omega, by rw [List.length_append, hnl.out]; simp; omega, E1, O5, B5⟩
          case measure => simp [intOf]; omega
      · have d1 : decide (0 < u) = false := decide_eq_false hu
        have e : Hid (firstL N n0 = S) := Lib.hid (by rw [← HF.out, firstL_none _ u (by omega), List.append_nil])
        go_wp2_with fail
        go_ret
        exact ⟨⟨_, N, I.out, HL.out, rfl, by rw [e.out]; unfold Spans; rw [hnl.out]; exact own_mono O4.out B1.out.size⟩, Buf.then_ B1.out HB.out⟩
    · obtain rfl : kx = m := by omega
      have e : Hid (firstL N n0 = S) := Lib.hid (by rw [← HF.out, List.drop_of_length_le (by rw [hn.out]; exact Nat.le_refl _)]; simp [firstL])
      go_wp2_with fail
      go_ret
      exact ⟨⟨_, N, I.out, HL.out, rfl, by rw [e.out]; unfold Spans; rw [hnl.out]; exact own_mono O4.out B1.out.size⟩, Buf.then_ B1.out HB.out⟩
end Spn
end Go.Proofs.Ytfmhfhggogjbkaa
