/- The reference's near, Length, Cut, Valid at any numbers. -/
import Derived.Test.YtfmhfhggogjbkaaSpY
import Derived.Test.YtfmhfhggogjbkaaRfEh
import Derived.Test.YtfmhfhggogjbkaaRfG
set_option linter.unusedVariables false
set_option linter.unusedSimpArgs false
namespace Go.Proofs.Ytfmhfhggogjbkaa
open Go.RowKit Dice
namespace Spn
open Sp (cells2 cells2_snoc cells2_get Spans own_kept own_below own_mono own_shape)
theorem refin_no (n lo hi : Int) (w : World) (h : ¬ (lo ≤ n ∧ n ≤ hi)) :
    Calls Try.prog 62 #[.int .i64 n, .int .i64 lo, .int .i64 hi] w fun e w' => e = .returned (.bool false) ∧ w' = w := by
  by_cases c : lo ≤ n
  · have d1 : decide (lo ≤ n) = true := decide_eq_true c
    have d2 : decide (n ≤ hi) = false := decide_eq_false (fun c2 => h ⟨c, c2⟩)
    go_enter Try.func62, Try.ntmps62
    go_wp2
    go_ret
    exact ⟨rfl, rfl⟩
  · have d1 : decide (lo ≤ n) = false := decide_eq_false c
    go_enter Try.func62, Try.ntmps62
    go_wp2
    go_ret
    exact ⟨rfl, rfl⟩
set_option maxHeartbeats 4000000 in
theorem near_gen {w : World} {B : Nat} {v : Value} {L : LP} (O : Spans w B v L) (hI : Near L) (hC : Canon L) (h9 : L.length ≤ 200) :
    Calls Try.prog 63 #[v] w fun e w' => e = .returned (.bool true) ∧ Below w.heap.size w w' := by
  obtain ⟨sa, sc, rfl⟩ := own_len O
  obtain ⟨n, hn⟩ : ∃ n, n = L.length := ⟨_, rfl⟩
  have FS := Lib.hid (fun (j : Nat) (p : Int × Int) (hj : L[j]? = some p) => own_get O hj)
  rw [← hn] at h9 FS ⊢
  replace hn := Lib.hid hn
  have B0 := Lib.hid (Below.refl w.heap.size w)
  clear O
  go_enter Try.func63, Try.ntmps63
  go_wp2_with fail
  go_loopw [3] (fun i wr => ∃ k : Nat, k ≤ n ∧ i = .int .i64 k ∧ Hid (Below w.heap.size w wr)) (fun i _ => n - (intOf i).toNat)
  case atStart => exact ⟨0, Nat.zero_le _, rfl, B0⟩
  case round =>
    clear B0
    obtain ⟨k, hk, rfl, HB⟩ := hrel
    by_cases hlt : k < n
    · obtain ⟨⟨f, t⟩, hp⟩ : ∃ p, L[k]? = some p := ⟨L[k]'(by rw [← hn.out]; exact hlt), List.getElem?_eq_getElem _⟩
      obtain ⟨hz1_, hz2_, g, rfl, hg, hgB, q0, q1, _⟩ := FS.out _ _ hp
      have hin := hI _ (List.mem_of_getElem? hp)
      have k0 := (HB.out.cell (p := ⟨g, _, none⟩) hg).trans q0
      have k1 := (HB.out.cell (p := ⟨g, _, none⟩) hg).trans q1
      dsimp only at k0 k1 hin
      have b1 : (k : Int) < n := by omega
      have hp' := Lib.hid hp
      have ft := hC.at hp
      simp only at ft
      clear q0 q1 hp hz1_
      obtain ⟨i1, i2⟩ := hin
      have F1 := Lib.hid fun w' => refin_b f (-1152921504606846976) 1152921504606846976 w' (by omega) (by omega)
      have F2 := Lib.hid fun w' => refin_b t (-1152921504606846976) 1152921504606846976 w' (by omega) (by omega)
      go_wp2_with (go_at_call 62; first
        | (with_reducible refine (F1.out _).mono ?_; rintro e w2 ⟨rfl, rfl⟩)
        | (with_reducible refine (F2.out _).mono ?_; rintro e w2 ⟨rfl, rfl⟩))
      go_roundw
      case rel => exact ⟨k + 1, by omega, by go_num, HB⟩
      case measure => simp [intOf]; omega
    · go_wp2_with fail
      go_ret
      exact ⟨rfl, HB.out⟩
set_option maxHeartbeats 4000000 in
theorem near_no {w : World} {B : Nat} {v : Value} {L : LP} (O : Spans w B v L) (hI : ¬ Near L) (hC : Canon L) (h9 : L.length ≤ 200) :
    Calls Try.prog 63 #[v] w fun e w' => e = .returned (.bool false) ∧ Below w.heap.size w w' := by
  obtain ⟨sa, sc, rfl⟩ := own_len O
  obtain ⟨n, hn⟩ : ∃ n, n = L.length := ⟨_, rfl⟩
  have FS := Lib.hid (fun (j : Nat) (p : Int × Int) (hj : L[j]? = some p) => own_get O hj)
  rw [← hn] at h9 FS ⊢
  replace hn := Lib.hid hn
  have B0 := Lib.hid (Below.refl w.heap.size w)
  have J0 : Hid (∀ (j : Nat) (p : Int × Int), j < 0 → L[j]? = some p → (-1152921504606846976 ≤ p.1 ∧ p.1 ≤ 1152921504606846976) ∧ (-1152921504606846976 ≤ p.2 ∧ p.2 ≤ 1152921504606846976)) := Lib.hid fun j p hj => absurd hj (Nat.not_lt_zero j)
  clear O
  go_enter Try.func63, Try.ntmps63
  go_wp2_with fail
  go_loopw [3] (fun i wr => ∃ k : Nat, k ≤ n ∧ i = .int .i64 k ∧ Hid (Below w.heap.size w wr) ∧ Hid (∀ (j : Nat) (p : Int × Int), j < k → L[j]? = some p → (-1152921504606846976 ≤ p.1 ∧ p.1 ≤ 1152921504606846976) ∧ (-1152921504606846976 ≤ p.2 ∧ p.2 ≤ 1152921504606846976))) (fun i _ => n - (intOf i).toNat)
  case atStart => exact ⟨0, Nat.zero_le _, rfl, B0, J0⟩
  case round =>
    clear B0 J0
    obtain ⟨k, hk, rfl, HB, HJ⟩ := hrel
    by_cases hlt : k < n
    · obtain ⟨⟨f, t⟩, hp⟩ : ∃ p, L[k]? = some p := ⟨L[k]'(by rw [← hn.out]; exact hlt), List.getElem?_eq_getElem _⟩
      obtain ⟨hz1_, hz2_, g, rfl, hg, hgB, q0, q1, _⟩ := FS.out _ _ hp
      have k0 := (HB.out.cell (p := ⟨g, _, none⟩) hg).trans q0
      have k1 := (HB.out.cell (p := ⟨g, _, none⟩) hg).trans q1
      dsimp only at k0 k1
      have b1 : (k : Int) < n := by omega
      replace hp := Lib.hid hp
      clear q0 q1 hz1_
      by_cases c1 : -1152921504606846976 ≤ f ∧ f ≤ 1152921504606846976
      · have F1 := Lib.hid fun w' => refin_b f (-1152921504606846976) 1152921504606846976 w' c1.1 c1.2
        by_cases c2 : -1152921504606846976 ≤ t ∧ t ≤ 1152921504606846976
        · have F2 := Lib.hid fun w' => refin_b t (-1152921504606846976) 1152921504606846976 w' c2.1 c2.2
          have NJ : Hid (∀ (j : Nat) (p : Int × Int), j < k + 1 → L[j]? = some p → (-1152921504606846976 ≤ p.1 ∧ p.1 ≤ 1152921504606846976) ∧ (-1152921504606846976 ≤ p.2 ∧ p.2 ≤ 1152921504606846976)) := Lib.hid fun j p hj hjp => by
            rcases Nat.lt_succ_iff_lt_or_eq.1 hj with h | rfl
            · exact HJ.out j p h hjp
            · have := hp.out; rw [this] at hjp; cases hjp; exact ⟨c1, c2⟩
          clear c1 c2 HJ
          go_wp2_with (go_at_call 62; first
            | (with_reducible refine (F1.out _).mono ?_; rintro e w2 ⟨rfl, rfl⟩)
            | (with_reducible refine (F2.out _).mono ?_; rintro e w2 ⟨rfl, rfl⟩))
          go_roundw
          case rel => exact ⟨k + 1, by omega, by go_num, HB, NJ⟩
          case measure => simp [intOf]; omega
        · have F2 := Lib.hid fun w' => refin_no t (-1152921504606846976) 1152921504606846976 w' c2
          clear c1 c2
          go_wp2_with (go_at_call 62; first
            | (with_reducible refine (F1.out _).mono ?_; rintro e w2 ⟨rfl, rfl⟩)
            | (with_reducible refine (F2.out _).mono ?_; rintro e w2 ⟨rfl, rfl⟩))
          go_ret
          exact ⟨rfl, HB.out⟩
      · have F1 := Lib.hid fun w' => refin_no f (-1152921504606846976) 1152921504606846976 w' c1
        clear c1
        go_wp2_with (go_at_call 62; (with_reducible refine (F1.out _).mono ?_); rintro e w2 ⟨rfl, rfl⟩)
        go_ret
        exact ⟨rfl, HB.out⟩
    · refine absurd (fun p hp => ?_) hI
      obtain ⟨j, hj, rfl⟩ := List.mem_iff_getElem.1 hp
      have := HJ.out j _ (by have := hn.out; omega) (List.getElem?_eq_getElem hj)
      exact ⟨this.1.1, this.2.2⟩
set_option maxHeartbeats 4000000 in
set_option maxRecDepth 100000 in
theorem reflength_gen {w : World} {v : Value} {L0 L : LP} (h : Its w v L0) (hN : Is L (hasB L0)) (hI : Near L) (h9 : L0.length ≤ 200) :
    Calls Try.prog 36 #[v] w fun e w' => e = .returned (.tuple #[.int .i64 (lenL L), .bool true]) ∧ Below w.heap.size w w' := by
  have NC := Lib.hid (refnormal_any h h9)
  have L0_ : lenL (L.take 0) = 0 := rfl
  have CC := Lib.hid hN.canon
  have II := Lib.hid hI
  obtain ⟨tl, htl⟩ : ∃ tl, tl = lenL L := ⟨_, rfl⟩
  rw [← htl]
  replace htl := Lib.hid htl
  replace hN := Lib.hid hN
  clear h hI
  go_enter Try.func36, Try.ntmps36
  go_wp2_with fail
  refine NC.out.mono ?_
  rintro e w1 ⟨⟨r, N', rfl, O, I', l'⟩, hb1⟩
  obtain rfl := Is.unique hN.out I'
  obtain ⟨n, hn⟩ : ∃ n, n = L.length := ⟨_, rfl⟩
  have h9 : n ≤ 200 := by omega
  replace hn := Lib.hid hn
  clear I' l'
  have NE := Lib.hid (near_gen O II.out CC.out (by rw [← hn.out]; exact h9))
  obtain ⟨sa, sc, rfl⟩ := own_len O
  rw [← hn.out] at O NE ⊢
  have FS := Lib.hid (fun (j : Nat) (p : Int × Int) (hj : L[j]? = some p) => own_get (L := L) (n := n) O hj)
  have B1 := Lib.hid hb1
  clear O hb1 NC
  go_wp2_with fail
  refine NE.out.mono ?_
  rintro e w2 ⟨rfl, hb2⟩
  have B2 := Lib.hid hb2
  clear hb2 NE
  have B0 := Lib.hid (Below.refl w2.heap.size w2)
  have T0 : Hid ((0 : Int) = lenL (L.take 0)) := Lib.hid rfl
  go_wp2_with fail
  go_loopw [5, 6] (fun s i wr => ∃ (k : Nat) (x : Int), k ≤ n ∧ s = .int .i64 x ∧ i = .int .i64 k ∧ Hid (x = lenL (L.take k)) ∧ 0 ≤ x ∧ x ≤ 2305843009213693952 ∧ Hid (Below w2.heap.size w2 wr)) (fun _ i _ => n - (intOf i).toNat)
  case atStart => exact ⟨0, 0, Nat.zero_le _, rfl, rfl, T0, by omega, by omega, B0⟩
  case round =>
    clear B0 T0
    obtain ⟨k, x, hk, rfl, rfl, hx, x0, x9, HB⟩ := hrel
    by_cases hlt : k < n
    · obtain ⟨⟨f, t⟩, hp⟩ : ∃ p, L[k]? = some p := ⟨L[k]'(by rw [← hn.out]; exact hlt), List.getElem?_eq_getElem _⟩
      obtain ⟨hz1_, hz2_, g, rfl, hg, hgB, q0, q1, _⟩ := FS.out _ _ hp
      have hin := II.out _ (List.mem_of_getElem? hp)
      have hg2 : g < w2.heap.size := Nat.lt_of_lt_of_le hg B2.out.size
      have k0 := (HB.out.cell (p := ⟨g, _, none⟩) hg2).trans ((B2.out.cell (p := ⟨g, _, none⟩) hg).trans q0)
      have k1 := (HB.out.cell (p := ⟨g, _, none⟩) hg2).trans ((B2.out.cell (p := ⟨g, _, none⟩) hg).trans q1)
      have ft := CC.out.at hp
      dsimp only at k0 k1 hin ft
      have b1 : (k : Int) < n := by omega
      have hs := lenL_succ L k _ hp
      rw [← hx.out] at hs
      have hbd := lenL_bounds CC.out (show (-1152921504606846976 : Int) ≤ 1152921504606846976 by decide) II.out (k + 1)
      rw [hs] at hbd
      simp only at hs hbd
      obtain ⟨y, hy⟩ : ∃ y, x + (t - f) = y := ⟨_, rfl⟩
      rw [hy] at hs hbd
      obtain ⟨i1, i2⟩ := hin
      obtain ⟨y0, y9⟩ := hbd
      have HS := Lib.hid hs.symm
      have w1_ : IntKind.i64.wrap (t - f) = t - f := IntWalk.i64_in _ (by omega)
      clear q0 q1 hp hz1_ hs hx
      go_wp2_with fail
      go_quiet (fail)
      go_wp2_with fail
      go_roundw
      case rel => exact ⟨k + 1, y, by omega, by first | rfl | exact congrArg _ hy, by go_num, HS, by omega, by omega, Lib.hid (by repeat (first | exact HB.out | refine Buf.below_drewN ?_ _))⟩
      case measure => simp [intOf]; omega
    · obtain rfl : k = n := by omega
      have hL : L.take k = L := List.take_of_length_le (by rw [← hn.out]; exact Nat.le_refl _)
      rw [hL, ← htl.out] at hx
      obtain rfl : x = tl := hx.out
      go_wp2_with fail
      go_ret2
      exact ⟨rfl, Buf.then_ (Buf.then_ B1.out B2.out) HB.out⟩
set_option maxHeartbeats 4000000 in
theorem reflength_no {w : World} {v : Value} {L0 L : LP} (h : Its w v L0) (hN : Is L (hasB L0)) (hI : ¬ Near L) (h9 : L0.length ≤ 200) :
    Calls Try.prog 36 #[v] w fun e w' => e = .returned (.tuple #[.int .i64 0, .bool false]) ∧ Below w.heap.size w w' := by
  have NC := Lib.hid (refnormal_any h h9)
  replace hN := Lib.hid hN
  replace hI := Lib.hid hI
  clear h
  go_enter Try.func36, Try.ntmps36
  go_wp2_with fail
  refine NC.out.mono ?_
  rintro e w1 ⟨⟨r, N', rfl, O, I', l'⟩, hb1⟩
  obtain rfl := Is.unique hN.out I'
  have NE := Lib.hid (near_no O hI.out I'.canon (by omega))
  have B1 := Lib.hid hb1
  obtain ⟨sa, sc, rfl⟩ := own_len O
  clear O I' l' hb1 NC
  go_wp2_with fail
  refine NE.out.mono ?_
  rintro e w2 ⟨rfl, hb2⟩
  go_wp2_with fail
  go_ret2
  exact ⟨rfl, Buf.then_ B1.out hb2⟩
set_option maxHeartbeats 2000000 in
theorem refcut_gen {w : World} {v : Value} {A : LP} (x y : Int) (h : Its w v A) (h9 : A.length ≤ 100) :
    Calls Try.prog 30 #[v, .int .i64 x, .int .i64 y] w fun e w' => (∃ r N, e = .returned r ∧ Spans w' w.heap.size r N ∧ Is N (fun z => hasB A z && decide (x ≤ z ∧ z < y)) ∧ N.length ≤ 20000) ∧ Below w.heap.size w w' := by
  have H := Lib.hid h
  clear h
  have W1 := Lib.hid (new_block (w := w) (.cells #[.int .i64 x, .int .i64 y] 49))
  have K := c2 (heap_alloc_new w (.cells #[.int .i64 x, .int .i64 y] 49))
  have I2 : Hid (Its (w.alloc (.cells #[.int .i64 x, .int .i64 y] 49)) (.slice (some ⟨w.heap.size, 0, none⟩) 1 1) [(x, y)]) := Lib.hid (.inr ⟨_, 1, rfl, Nat.le_refl _, by simp, fun k p hp => by
    have hk : k = 0 := by have := (List.getElem?_eq_some_iff.1 hp).1; simp at this; omega
    subst hk
    simp at hp
    subst hp
    exact K⟩)
  have C := Lib.hid (refmeet_gen (H.out.keep W1.out) I2.out (by omega) (by simp))
  clear K
  go_enter Try.func30, Try.ntmps30
  go_wp2_with (go_at_call 19; with_reducible refine C.out.mono ?_; rintro e w2 ⟨⟨r, N, rfl, O, I, hl⟩, b⟩)
  go_ret
  exact ⟨⟨_, N, rfl, own_mono O W1.out.size, I.congr fun z => by simp [hasB_cons, hasB_nil], hl⟩, Buf.then_ W1.out b⟩
end Spn
end Go.Proofs.Ytfmhfhggogjbkaa
