/- span.Has and the reference's; Same of the reference at equal lists; isNear and Length. -/
import Derived.Test.YtfmhfhggogjbkaaSpnD
import Derived.Laws.StructEq
set_option linter.unusedVariables false
set_option linter.unusedSimpArgs false
namespace Go.Proofs.Ytfmhfhggogjbkaa
open Go.RowKit Dice
namespace Spn
open Sp (cells2 cells2_snoc cells2_get Spans own_kept own_below own_mono own_shape)
theorem has_take_no {L : LP} {k : Nat} {x : Int} {p : Int × Int} (h : hasB (L.take k) x = false) (hp : L[k]? = some p) (hx : ¬ (p.1 ≤ x ∧ x < p.2)) : hasB (L.take (k + 1)) x = false := by
  rw [take_succ_has L k p hp, h, decide_eq_false hx]; rfl
set_option maxHeartbeats 2000000 in
theorem has_any {w : World} {v : Value} {L : LP} (x : Int) (h : Its w v L) (h9 : L.length ≤ 1000) :
    Calls Try.prog 27 #[v, .int .i64 x] w fun e w' => e = .returned (.bool (hasB L x)) ∧ Below w.heap.size w w' := by
  obtain ⟨r, hr⟩ : ∃ r, r = hasB L x := ⟨_, rfl⟩
  rw [← hr]
  obtain ⟨ad, c, rfl, hc, hf⟩ := its_form h
  obtain ⟨n, hn⟩ : ∃ n, n = L.length := ⟨_, rfl⟩
  rw [← hn] at hc h9 ⊢
  replace hr := Lib.hid hr
  replace hn := Lib.hid hn
  have F := Lib.hid hf
  have W0 := Lib.hid (Below.refl w.heap.size w)
  clear h hf
  go_enter Try.func27, Try.ntmps27
  go_wp2_with fail
  go_loopw [9] (fun i wr => ∃ k : Nat, k ≤ n ∧ i = .int .i64 k ∧ Hid (hasB (L.take k) x = false) ∧ Hid (Below w.heap.size w wr)) (fun i _ => n - (intOf i).toNat)
  case atStart => exact ⟨0, Nat.zero_le _, rfl, Lib.hid rfl, W0⟩
  case round =>
    clear W0
    obtain ⟨k, hk, rfl, HT, HB⟩ := hrel
    by_cases hlt : k < n
    · obtain ⟨⟨f, t⟩, hp⟩ : ∃ p, L[k]? = some p := ⟨L[k]'(by rw [← hn.out]; exact hlt), List.getElem?_eq_getElem _⟩
      obtain ⟨g, rfl, hg, q0, q1⟩ := F.out k _ hp
      have k0 := (HB.out.cell (p := ⟨g, _, none⟩) hg).trans q0
      have k1 := (HB.out.cell (p := ⟨g, _, none⟩) hg).trans q1
      dsimp only at k0 k1
      have B2 := Lib.hid (HB.out.alloc HB.out.size (.cells #[.int .i64 f, .int .i64 t] 49))
      by_cases hx : f ≤ x ∧ x < t
      · obtain rfl : r = true := by rw [hr.out]; exact has_at.2 ⟨k, _, hp, hx⟩
        obtain ⟨x1, x2⟩ := hx
        replace hp := Lib.hid hp
        clear q0 q1
        go_wp2
        go_ret
        exact ⟨rfl, B2.out⟩
      · have HT' := Lib.hid (has_take_no HT.out hp hx)
        replace hp := Lib.hid hp
        clear q0 q1
        by_cases x1 : f ≤ x
        · have x2 : t ≤ x := by omega
          clear hx HT
          go_wp2_with fail
          go_roundw
          case rel => exact ⟨k + 1, by omega, by go_num, HT', B2⟩
          case measure => simp [intOf]; omega
        · have x2 : x < f := by omega
          clear hx HT x1
          go_wp2_with fail
          go_roundw
          case rel => exact ⟨k + 1, by omega, by go_num, HT', B2⟩
          case measure => simp [intOf]; omega
    · obtain rfl : k = n := by omega
      obtain rfl : r = false := by rw [hr.out, ← take_all L k (by rw [hn.out]; exact Nat.le_refl _)]; exact HT.out
      go_wp2
      go_ret
      exact ⟨rfl, HB.out⟩
set_option maxHeartbeats 2000000 in
theorem refhas_any {w : World} {v : Value} {L : LP} (x : Int) (h : Its w v L) (h9 : L.length ≤ 1000) :
    Calls Try.prog 28 #[v, .int .i64 x] w fun e w' => e = .returned (.bool (hasB L x)) ∧ Below w.heap.size w w' := by
  obtain ⟨r, hr⟩ : ∃ r, r = hasB L x := ⟨_, rfl⟩
  rw [← hr]
  obtain ⟨ad, c, rfl, hc, hf⟩ := its_form h
  obtain ⟨n, hn⟩ : ∃ n, n = L.length := ⟨_, rfl⟩
  rw [← hn] at hc h9 ⊢
  replace hr := Lib.hid hr
  replace hn := Lib.hid hn
  have F := Lib.hid hf
  have W0 := Lib.hid (Below.refl w.heap.size w)
  clear h hf
  go_enter Try.func28, Try.ntmps28
  go_wp2_with fail
  go_loopw [5] (fun i wr => ∃ k : Nat, k ≤ n ∧ i = .int .i64 k ∧ Hid (hasB (L.take k) x = false) ∧ Hid (Below w.heap.size w wr)) (fun i _ => n - (intOf i).toNat)
  case atStart => exact ⟨0, Nat.zero_le _, rfl, Lib.hid rfl, W0⟩
  case round =>
    clear W0
    obtain ⟨k, hk, rfl, HT, HB⟩ := hrel
    by_cases hlt : k < n
    · obtain ⟨⟨f, t⟩, hp⟩ : ∃ p, L[k]? = some p := ⟨L[k]'(by rw [← hn.out]; exact hlt), List.getElem?_eq_getElem _⟩
      obtain ⟨g, rfl, hg, q0, q1⟩ := F.out k _ hp
      have k0 := (HB.out.cell (p := ⟨g, _, none⟩) hg).trans q0
      have k1 := (HB.out.cell (p := ⟨g, _, none⟩) hg).trans q1
      dsimp only at k0 k1
      by_cases hx : f ≤ x ∧ x < t
      · obtain rfl : r = true := by rw [hr.out]; exact has_at.2 ⟨k, _, hp, hx⟩
        obtain ⟨x1, x2⟩ := hx
        replace hp := Lib.hid hp
        clear q0 q1
        go_wp2
        go_ret
        exact ⟨rfl, HB.out⟩
      · have HT' := Lib.hid (has_take_no HT.out hp hx)
        replace hp := Lib.hid hp
        clear q0 q1
        by_cases x1 : f ≤ x
        · have x2 : t ≤ x := by omega
          clear hx HT
          go_wp2_with fail
          go_roundw
          case rel => exact ⟨k + 1, by omega, by go_num, HT', HB⟩
          case measure => simp [intOf]; omega
        · have x2 : x < f := by omega
          clear hx HT x1
          go_wp2_with fail
          go_roundw
          case rel => exact ⟨k + 1, by omega, by go_num, HT', HB⟩
          case measure => simp [intOf]; omega
    · obtain rfl : k = n := by omega
      obtain rfl : r = false := by rw [hr.out, ← take_all L k (by rw [hn.out]; exact Nat.le_refl _)]; exact HT.out
      go_wp2
      go_ret
      exact ⟨rfl, HB.out⟩
set_option maxHeartbeats 2000000 in
theorem same_yes {w : World} {va vb : Value} {L : LP} (ha : Its w va L) (hb : Its w vb L) (h9 : L.length ≤ 1000) :
    Calls Try.prog 15 #[va, vb] w fun e w' => e = .returned (.bool true) ∧ Below w.heap.size w w' := by
  obtain ⟨ad, c, rfl, hc, hf⟩ := its_form ha
  obtain ⟨ad', c', rfl, hc', hf'⟩ := its_form hb
  obtain ⟨n, hn⟩ : ∃ n, n = L.length := ⟨_, rfl⟩
  rw [← hn] at hc hc' h9 ⊢
  replace hn := Lib.hid hn
  have F := Lib.hid hf
  have F' := Lib.hid hf'
  have W0 := Lib.hid (Below.refl w.heap.size w)
  clear ha hb hf hf'
  go_enter Try.func15, Try.ntmps15
  go_wp2_with fail
  go_loopw [5] (fun i wr => ∃ k : Nat, k ≤ n ∧ i = .int .i64 k ∧ Hid (Below w.heap.size w wr)) (fun i _ => n - (intOf i).toNat)
  case atStart => exact ⟨0, Nat.zero_le _, rfl, W0⟩
  case round =>
    clear W0
    obtain ⟨k, hk, rfl, HB⟩ := hrel
    by_cases hlt : k < n
    · obtain ⟨⟨f, t⟩, hp⟩ : ∃ p, L[k]? = some p := ⟨L[k]'(by rw [← hn.out]; exact hlt), List.getElem?_eq_getElem _⟩
      obtain ⟨g, rfl, hg, q0, q1⟩ := F.out k _ hp
      obtain ⟨g', rfl, hg', p0, p1⟩ := F'.out k _ hp
      have k0 := (HB.out.cell (p := ⟨g, _, none⟩) hg).trans q0
      have k1 := (HB.out.cell (p := ⟨g, _, none⟩) hg).trans q1
      have j0 := (HB.out.cell (p := ⟨g', _, none⟩) hg').trans p0
      have j1 := (HB.out.cell (p := ⟨g', _, none⟩) hg').trans p1
      dsimp only at k0 k1 j0 j1
      have b1 : (k : Int) < n := by omega
      replace hp := Lib.hid hp
      clear q0 q1 p0 p1
      go_wp2_with fail
      go_quiet (fail)
      go_wp2_with fail
      go_roundw
      case rel => exact ⟨k + 1, by omega, by go_num, Lib.hid (Buf.below_drewN HB.out _)⟩
      case measure => simp [intOf]; omega
    · obtain rfl : k = n := by omega
      go_wp2
      go_ret
      exact ⟨rfl, HB.out⟩
set_option maxHeartbeats 2000000 in
theorem isNear_yes {w : World} {v : Value} {L : LP} (h : Its w v L) (hI : Inside L (-1152921504606846976) 1152921504606846976) (h9 : L.length ≤ 1000) :
    Calls Try.prog 61 #[v] w fun e w' => e = .returned (.bool true) ∧ Below w.heap.size w w' := by
  obtain ⟨ad, c, rfl, hc, hf⟩ := its_form h
  rcases Nat.eq_zero_or_pos L.length with h0 | hpos
  · rw [h0]
    clear hf hI h
    go_enter Try.func61, Try.ntmps61
    go_wp2_with fail
    go_ret
    exact ⟨rfl, Below.refl _ _⟩
  · obtain ⟨n, hn⟩ : ∃ n, n + 1 = L.length := ⟨L.length - 1, by omega⟩
    obtain ⟨⟨f, t⟩, hp⟩ : ∃ p, L[0]? = some p := ⟨L[0], List.getElem?_eq_getElem _⟩
    obtain ⟨⟨f2, t2⟩, hp2⟩ : ∃ p, L[n]? = some p := ⟨L[n]'(by omega), List.getElem?_eq_getElem _⟩
    obtain ⟨g, rfl, hg, q0, q1⟩ := hf 0 _ hp
    obtain ⟨g', e, _, p0, p1⟩ := hf n _ hp2
    cases e
    have i1 := (hI _ (List.mem_of_getElem? hp)).1
    have i2 := (hI _ (List.mem_of_getElem? hp2)).2
    dsimp only at i1 i2 q0 q1 p0 p1
    obtain ⟨m, hm⟩ : ∃ m, m = L.length := ⟨_, rfl⟩
    rw [← hm] at hn h9 hc hpos ⊢
    have e1 : IntKind.i64.wrap ((m : Int) - 1) = n := by rw [IntWalk.i64_in _ ⟨by omega, by omega⟩]; omega
    have b1 : (n : Int) < m := by omega
    have b2 : (0 : Int) < m := by omega
    have d1 : ((m : Int) == 0) = false := by simp; omega
    replace hn := Lib.hid hn
    clear hf hI h hm hp hp2
    go_enter Try.func61, Try.ntmps61
    go_wp2_with fail
    go_ret
    exact ⟨rfl, Below.refl _ _⟩
end Spn
end Go.Proofs.Ytfmhfhggogjbkaa
