/- span.isNear, Length, Shift where ends are too far. -/
import Derived.Test.YtfmhfhggogjbkaaSpX
set_option linter.unusedVariables false
set_option linter.unusedSimpArgs false
namespace Go.Proofs.Ytfmhfhggogjbkaa
open Go.RowKit Dice
namespace Spn
open Sp (cells2 cells2_snoc cells2_get Spans own_kept own_below own_mono own_shape)
/-- The ends are near. -/
abbrev Near (L : LP) : Prop := Inside L (-1152921504606846976) 1152921504606846976
theorem near_ends {L : LP} (hC : Canon L) {n : Nat} {f t f2 t2 : Int} (h0 : L[0]? = some (f, t)) (hn : n + 1 = L.length) (h2 : L[n]? = some (f2, t2)) (a : -1152921504606846976 ≤ f) (b : t2 ≤ 1152921504606846976) : Near L := by
  intro p hp
  obtain ⟨j, hj, rfl⟩ := List.mem_iff_getElem.1 hp
  have hj' : L[j]? = some L[j] := List.getElem?_eq_getElem hj
  have g1 : f ≤ (L[j]).1 := by
    rcases Nat.eq_zero_or_pos j with rfl | hp0
    · rw [h0] at hj'; injection hj' with e; rw [← e]; exact Int.le_refl _
    · have := hC.get hp0 h0 hj'; have := hC.at h0; simp only at *; omega
  have g2 : (L[j]).2 ≤ t2 := by
    rcases Nat.lt_or_ge j n with c | c
    · have := hC.get c hj' h2; have := hC.at h2; simp only at *; omega
    · have : j = n := by omega
      subst this
      rw [h2] at hj'; injection hj' with e; rw [← e]; exact Int.le_refl _
  exact ⟨by omega, by omega⟩
set_option maxHeartbeats 2000000 in
theorem isNear_no {w : World} {v : Value} {L : LP} (h : Its w v L) (hC : Canon L) (hI : ¬ Near L) (h9 : L.length ≤ 1000) :
    Calls Try.prog 61 #[v] w fun e w' => e = .returned (.bool false) ∧ Below w.heap.size w w' := by
  obtain ⟨ad, c, rfl, hc, hf⟩ := its_form h
  rcases Nat.eq_zero_or_pos L.length with h0 | hpos
  · exact absurd (fun p hp => by rw [List.length_eq_zero_iff.1 h0] at hp; cases hp) hI
  · obtain ⟨n, hn⟩ : ∃ n, n + 1 = L.length := ⟨L.length - 1, by omega⟩
    obtain ⟨⟨f, t⟩, hp⟩ : ∃ p, L[0]? = some p := ⟨L[0], List.getElem?_eq_getElem _⟩
    obtain ⟨⟨f2, t2⟩, hp2⟩ : ∃ p, L[n]? = some p := ⟨L[n]'(by omega), List.getElem?_eq_getElem _⟩
    obtain ⟨g, rfl, hg, q0, q1⟩ := hf 0 _ hp
    obtain ⟨g', e, _, p0, p1⟩ := hf n _ hp2
    cases e
    have ne := fun a b => hI (near_ends hC hp hn hp2 a b)
    dsimp only at q0 q1 p0 p1
    obtain ⟨m, hm⟩ : ∃ m, m = L.length := ⟨_, rfl⟩
    rw [← hm] at hn h9 hc hpos ⊢
    have e1 : IntKind.i64.wrap ((m : Int) - 1) = n := by rw [IntWalk.i64_in _ ⟨by omega, by omega⟩]; omega
    have b1 : (n : Int) < m := by omega
    have b2 : (0 : Int) < m := by omega
    have d1 : ((m : Int) == 0) = false := by simp; omega
    replace hn := Lib.hid hn
    clear hf hI h hm hp hp2
    by_cases c1 : -1152921504606846976 ≤ f
    · have c2 : ¬ t2 ≤ 1152921504606846976 := ne c1
      have d2 : decide (-1152921504606846976 ≤ f) = true := decide_eq_true c1
      have d3 : decide (t2 ≤ 1152921504606846976) = false := decide_eq_false c2
      clear ne
      go_enter Try.func61, Try.ntmps61
      go_wp2_with fail
      go_ret
      exact ⟨rfl, Below.refl _ _⟩
    · have d2 : decide (-1152921504606846976 ≤ f) = false := decide_eq_false c1
      clear ne
      go_enter Try.func61, Try.ntmps61
      go_wp2_with fail
      go_ret
      exact ⟨rfl, Below.refl _ _⟩
set_option maxHeartbeats 2000000 in
theorem length_no {w : World} {v : Value} {L N0 : LP} (h : Its w v L) (hN : Is N0 (hasB L)) (hI : ¬ Near N0) (h9 : L.length ≤ 500) :
    Calls Try.prog 35 #[v] w fun e w' => e = .returned (.tuple #[.int .i64 0, .bool false]) ∧ Below w.heap.size w w' := by
  have C1 := Lib.hid (normal_any h h9)
  replace hN := Lib.hid hN
  replace hI := Lib.hid hI
  clear h
  go_enter Try.func35, Try.ntmps35
  go_wp2_with fail
  refine C1.out.mono ?_
  rintro e w1 ⟨⟨r, N, rfl, O, I, hl⟩, b1⟩
  obtain rfl := Is.unique I hN.out
  have C2 := Lib.hid (isNear_no (its_of_own O) I.canon hI.out (by omega))
  have B1 := Lib.hid b1
  obtain ⟨ra, rc, rfl⟩ : ∃ a c, r = .slice a N.length c := by obtain ⟨a, c, e, _⟩ := its_form (its_of_own O); exact ⟨a, c, e⟩
  clear O I b1 C1 hl
  go_wp2_with fail
  refine C2.out.mono ?_
  rintro e w2 ⟨rfl, b2⟩
  go_wp2_with fail
  go_ret2
  exact ⟨rfl, Buf.then_ B1.out b2⟩
set_option maxHeartbeats 2000000 in
theorem shift_no {w : World} {v : Value} {L N0 : LP} (d : Int) (h : Its w v L) (hN : Is N0 (hasB L)) (hI : ¬ Near N0 ∨ d < -1152921504606846976 ∨ 1152921504606846976 < d) (h9 : L.length ≤ 500) :
    Calls Try.prog 33 #[v, .int .i64 d] w fun e w' => e = .returned (.tuple #[.slice none 0 0, .int .i64 2]) ∧ Below w.heap.size w w' := by
  have C1 := Lib.hid (normal_any h h9)
  replace hN := Lib.hid hN
  clear h
  by_cases c1 : d < -1152921504606846976
  · have d1 : decide (d < -1152921504606846976) = true := decide_eq_true c1
    clear hI
    go_enter Try.func33, Try.ntmps33
    go_wp2_with fail
    refine C1.out.mono ?_
    rintro e w1 ⟨⟨r, N, rfl, O, I, hl⟩, b1⟩
    go_wp2_with fail
    go_ret2
    exact ⟨rfl, b1⟩
  · have d1 : decide (d < -1152921504606846976) = false := decide_eq_false c1
    by_cases c2 : 1152921504606846976 < d
    · have d2 : decide (1152921504606846976 < d) = true := decide_eq_true c2
      clear hI
      go_enter Try.func33, Try.ntmps33
      go_wp2_with fail
      refine C1.out.mono ?_
      rintro e w1 ⟨⟨r, N, rfl, O, I, hl⟩, b1⟩
      go_wp2_with fail
      go_ret2
      exact ⟨rfl, b1⟩
    · have d2 : decide (1152921504606846976 < d) = false := decide_eq_false c2
      replace hI : ¬ Near N0 := by rcases hI with h | h | h; exact h; exact absurd h c1; exact absurd h c2
      replace hI := Lib.hid hI
      go_enter Try.func33, Try.ntmps33
      go_wp2_with fail
      refine C1.out.mono ?_
      rintro e w1 ⟨⟨r, N, rfl, O, I, hl⟩, b1⟩
      obtain rfl := Is.unique I hN.out
      have C2 := Lib.hid (isNear_no (its_of_own O) I.canon hI.out (by omega))
      have B1 := Lib.hid b1
      obtain ⟨ra, rc, rfl⟩ : ∃ a c, r = .slice a N.length c := by obtain ⟨a, c, e, _⟩ := its_form (its_of_own O); exact ⟨a, c, e⟩
      clear O I b1 C1 hl
      go_wp2_with fail
      refine C2.out.mono ?_
      rintro e w2 ⟨rfl, b2⟩
      go_wp2_with fail
      go_ret2
      exact ⟨rfl, Buf.then_ B1.out b2⟩
end Spn
end Go.Proofs.Ytfmhfhggogjbkaa
