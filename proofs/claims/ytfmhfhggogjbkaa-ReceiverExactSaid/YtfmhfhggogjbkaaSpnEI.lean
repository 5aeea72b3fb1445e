/- SpnEI: texts joined. -/
import Derived.Test.YtfmhfhggogjbkaaSpnAD
import Derived.Laws.StructEq
/- span.Has and the reference's; Same of the reference at equal lists; isNear and Length. -/
set_option linter.unusedVariables false
set_option linter.unusedSimpArgs false
namespace Go.Proofs.Ytfmhfhggogjbkaa
open Go.RowKit Dice
namespace Spn
open Sp (cells2 cells2_snoc cells2_get Spans own_kept own_below own_mono own_shape)
theorem has_take_no {L : LP} {k : Nat} {x : Int} {p : Int × Int} (h : hasB (L.take k) x = false) (hp : L[k]? = some p) (hx : ¬ (p.1 ≤ x ∧ x < p.2)) : hasB (L.take (k + 1)) x = false := by
  rw [take_succ_has L k p hp, h, decide_eq_false hx]; rfl
set_option maxHeartbeats 2000000 in
theorem has_any {w : World} {v : Value} {L : LP} (x : Int) (h : Its w v L) (h9 : L.length ≤ 1000) :
    Calls Try.prog 27 #[v, .int .i64 x] w fun e w' => e = .returned (.bool (hasB L x)) ∧ Below w.heap.size w w' := by
  obtain ⟨r, hr⟩ : ∃ r, r = hasB L x := ⟨_, rfl⟩
  rw [← hr]
  obtain ⟨ad, c, rfl, hc, hf⟩ := its_form h
  obtain ⟨n, hn⟩ : ∃ n, n = L.length := ⟨_, rfl⟩
  rw [← hn] at hc h9 ⊢
  replace hr := Lib.hid hr
  replace hn := Lib.hid hn
  have F := Lib.hid hf
  have W0 := Lib.hid (Below.refl w.heap.size w)
  clear h hf
  go_enter Try.func27, Try.ntmps27
  go_wp2_with fail
  go_loopw [9] (fun i wr => ∃ k : Nat, k ≤ n ∧ i = .int .i64 k ∧ Hid (hasB (L.take k) x = false) ∧ Hid (Below w.heap.size w wr)) (fun i _ => n - (intOf i).toNat)
  case atStart => exact ⟨0, Nat.zero_le _, rfl, Lib.hid rfl, W0⟩
  case round =>
    clear W0
    obtain ⟨k, hk, rfl, HT, HB⟩ := hrel
    by_cases hlt : k < n
    · obtain ⟨⟨f, t⟩, hp⟩ : ∃ p, L[k]? = some p := ⟨L[k]'(by rw [← hn.out]; exact hlt), List.getElem?_eq_getElem _⟩
      obtain ⟨g, rfl, hg, q0, q1⟩ := F.out k _ hp
      have k0 := (HB.out.cell (p := ⟨g, _, none⟩) hg).trans q0
      have k1 := (HB.out.cell (p := ⟨g, _, none⟩) hg).trans q1
      dsimp only at k0 k1
      have B2 := Lib.hid (HB.out.alloc HB.out.size (.cells #[.int .i64 f, .int .i64 t] 49))
      by_cases hx : f ≤ x ∧ x < t
      · obtain rfl : r = true := by rw [hr.out]; exact has_at.2 ⟨k, _, hp, hx⟩
        obtain ⟨x1, x2⟩ := hx
        replace hp := Lib.hid hp
        clear q0 q1
        go_wp2
        go_ret
        exact ⟨rfl, B2.out⟩
      · have HT' := Lib.hid (has_take_no HT.out hp hx)
        replace hp := Lib.hid hp
        clear q0 q1
        by_cases x1 : f ≤ x
        · have x2 : t ≤ x := by omega
          clear hx HT
          go_wp2_with fail
          go_roundw
          case rel => exact ⟨k + 1, by omega, by go_num, HT', B2⟩
          case measure => simp [intOf]; omega
        · have x2 : x < f := by omega
          clear hx HT x1
          go_wp2_with fail
          go_roundw
          case rel => exact ⟨k + 1, by omega, by go_num, HT', B2⟩
          case measure => simp [intOf]; omega
    · obtain rfl : k = n := by omega
      obtain rfl : r = false := by rw [hr.out, ← take_all L k (by rw [hn.out]; exact Nat.le_refl _)]; exact HT.out
      go_wp2
      go_ret
      exact ⟨rfl, HB.out⟩
set_option maxHeartbeats 2000000 in
theorem refhas_any {w : World} {v : Value} {L : LP} (x : Int) (h : Its w v L) (h9 : L.length ≤ 1000) :
    Calls Try.prog 28 #[v, .int .i64 x] w fun e w' => e = .returned (.bool (hasB L x)) ∧ Below w.heap.size w w' := by
  obtain ⟨r, hr⟩ : ∃ r, r = hasB L x := ⟨_, rfl⟩
  rw [← hr]
  obtain ⟨ad, c, rfl, hc, hf⟩ := its_form h
  obtain ⟨n, hn⟩ : ∃ n, n = L.length := ⟨_, rfl⟩
  rw [← hn] at hc h9 ⊢
  replace hr := Lib.hid hr
  replace hn := Lib.hid hn
  have F := Lib.hid hf
  have W0 := Lib.hid (Below.refl w.heap.size w)
  clear h hf
  go_enter Try.func28, Try.ntmps28
  go_wp2_with fail
  go_loopw [5] (fun i wr => ∃ k : Nat, k ≤ n ∧ i = .int .i64 k ∧ Hid (hasB (L.take k) x = false) ∧ Hid (Below w.heap.size w wr)) (fun i _ => n - (intOf i).toNat)
  case atStart => exact ⟨0, Nat.zero_le _, rfl, Lib.hid rfl, W0⟩
  case round =>
    clear W0
    obtain ⟨k, hk, rfl, HT, HB⟩ := hrel
    by_cases hlt : k < n
    · obtain ⟨⟨f, t⟩, hp⟩ : ∃ p, L[k]? = some p := ⟨L[k]'(by rw [← hn.out]; exact hlt), List.getElem?_eq_getElem _⟩
      obtain ⟨g, rfl, hg, q0, q1⟩ := F.out k _ hp
      have k0 := (HB.out.cell (p := ⟨g, _, none⟩) hg).trans q0
      have k1 := (HB.out.cell (p := ⟨g, _, none⟩) hg).trans q1
      dsimp only at k0 k1
      by_cases hx : f ≤ x ∧ x < t
      · obtain rfl : r = true := by rw [hr.out]; exact has_at.2 ⟨k, _, hp, hx⟩
        obtain ⟨x1, x2⟩ := hx
        replace hp := Lib.hid hp
        clear q0 q1
        go_wp2
        go_ret
        exact ⟨rfl, HB.out⟩
      · have HT' := Lib.hid (has_take_no HT.out hp hx)
        replace hp := Lib.hid hp
        clear q0 q1
        by_cases x1 : f ≤ x
        · have x2 : t ≤ x := by omega
          clear hx HT
          go_wp2_with fail
          go_roundw
          case rel => exact ⟨k + 1, by omega, by go_num, HT', HB⟩
          case measure => simp [intOf]; omega
        · have x2 : x < f := by omega
          clear hx HT x1
          go_wp2_with fail
          go_roundw
          case rel => exact ⟨k + 1, by omega, by go_num, HT', HB⟩
          case measure => simp [intOf]; omega
    · obtain rfl : k = n := by omega
      obtain rfl : r = false := by rw [hr.out, ← take_all L k (by rw [hn.out]; exact Nat.le_refl _)]; exact HT.out
      go_wp2
      go_ret
      exact ⟨rfl, HB.out⟩
set_option maxHeartbeats 2000000 in
theorem same_yes {w : World} {va vb : Value} {L : LP} (ha : Its w va L) (hb : Its w vb L) (h9 : L.length ≤ 1000) :
    Calls Try.prog 15 #[va, vb] w fun e w' => e = .returned (.bool true) ∧ Below w.heap.size w w' := by
  obtain ⟨ad, c, rfl, hc, hf⟩ := its_form ha
  obtain ⟨ad', c', rfl, hc', hf'⟩ := its_form hb
  obtain ⟨n, hn⟩ : ∃ n, n = L.length := ⟨_, rfl⟩
  rw [← hn] at hc hc' h9 ⊢
  replace hn := Lib.hid hn
  have F := Lib.hid hf
  have F' := Lib.hid hf'
  have W0 := Lib.hid (Below.refl w.heap.size w)
  clear ha hb hf hf'
  go_enter Try.func15, Try.ntmps15
  go_wp2_with fail
  go_loopw [5] (fun i wr => ∃ k : Nat, k ≤ n ∧ i = .int .i64 k ∧ Hid (Below w.heap.size w wr)) (fun i _ => n - (intOf i).toNat)
  case atStart => exact ⟨0, Nat.zero_le _, rfl, W0⟩
  case round =>
    clear W0
    obtain ⟨k, hk, rfl, HB⟩ := hrel
    by_cases hlt : k < n
    · obtain ⟨⟨f, t⟩, hp⟩ : ∃ p, L[k]? = some p := ⟨L[k]'(by rw [← hn.out]; exact hlt), List.getElem?_eq_getElem _⟩
      obtain ⟨g, rfl, hg, q0, q1⟩ := F.out k _ hp
      obtain ⟨g', rfl, hg', p0, p1⟩ := F'.out k _ hp
      have k0 := (HB.out.cell (p := ⟨g, _, none⟩) hg).trans q0
      have k1 := (HB.out.cell (p := ⟨g, _, none⟩) hg).trans q1
      have j0 := (HB.out.cell (p := ⟨g', _, none⟩) hg').trans p0
      have j1 := (HB.out.cell (p := ⟨g', _, none⟩) hg').trans p1
      dsimp only at k0 k1 j0 j1
      have b1 : (k : Int) < n := by omega
      replace hp := Lib.hid hp
      clear q0 q1 p0 p1
      go_wp2_with fail
      go_quiet (fail)
      go_wp2_with fail
      go_roundw
      case rel => exact ⟨k + 1, by omega, by go_num, Lib.hid (Buf.below_drewN HB.out _)⟩
      case measure => simp [intOf]; omega
    · obtain rfl : k = n := by omega
      go_wp2
      go_ret
      exact ⟨rfl, HB.out⟩
set_option maxHeartbeats 2000000 in
theorem isNear_yes {w : World} {v : Value} {L : LP} (h : Its w v L) (hI : Inside L (-1152921504606846976) 1152921504606846976) (h9 : L.length ≤ 1000) :
    Calls Try.prog 61 #[v] w fun e w' => e = .returned (.bool true) ∧ Below w.heap.size w w' := by
  obtain ⟨ad, c, rfl, hc, hf⟩ := its_form h
  rcases Nat.eq_zero_or_pos L.length with h0 | hpos
  · rw [h0]
    clear hf hI h
    go_enter Try.func61, Try.ntmps61
    go_wp2_with fail
    go_ret
    exact ⟨rfl, Below.refl _ _⟩
  · obtain ⟨n, hn⟩ : ∃ n, n + 1 = L.length := ⟨L.length - 1, by omega⟩
    obtain ⟨⟨f, t⟩, hp⟩ : ∃ p, L[0]? = some p := ⟨L[0], List.getElem?_eq_getElem _⟩
    obtain ⟨⟨f2, t2⟩, hp2⟩ : ∃ p, L[n]? = some p := ⟨L[n]'(by omega), List.getElem?_eq_getElem _⟩
    obtain ⟨g, rfl, hg, q0, q1⟩ := hf 0 _ hp
    obtain ⟨g', e, _, p0, p1⟩ := hf n _ hp2
    cases e
    have i1 := (hI _ (List.mem_of_getElem? hp)).1
    have i2 := (hI _ (List.mem_of_getElem? hp2)).2
    dsimp only at i1 i2 q0 q1 p0 p1
    obtain ⟨m, hm⟩ : ∃ m, m = L.length := ⟨_, rfl⟩
    rw [← hm] at hn h9 hc hpos ⊢
    have e1 : IntKind.i64.wrap ((m : Int) - 1) = n := by rw [IntWalk.i64_in _ ⟨by omega, by omega⟩]; omega
    have b1 : (n : Int) < m := by omega
    have b2 : (0 : Int) < m := by omega
    have d1 : ((m : Int) == 0) = false := by simp; omega
    replace hn := Lib.hid hn
    clear hf hI h hm hp hp2
    go_enter Try.func61, Try.ntmps61
    go_wp2_with fail
    go_ret
    exact ⟨rfl, Below.refl _ _⟩
end Spn
end Go.Proofs.Ytfmhfhggogjbkaa

/- span.Length, First and Shift. -/
set_option linter.unusedVariables false
set_option linter.unusedSimpArgs false
namespace Go.Proofs.Ytfmhfhggogjbkaa
open Go.RowKit Dice
namespace Spn
open Sp (cells2 cells2_snoc cells2_get Spans own_kept own_below own_mono own_shape)
theorem Is.inside {N L : LP} (h : Is N (hasB L)) {lo hi : Int} (hL : Inside L lo hi) : Inside N lo hi := inside_of_has h.canon hL fun x hx => by rw [← h.has]; exact hx
theorem step_wraps {N : LP} (hc : Canon N) (hI : Inside N (-1152921504606846976) 1152921504606846976) {k : Nat} {f t : Int} (hp : N[k]? = some (f, t)) :
    IntKind.i64.wrap (t - f) = t - f ∧ IntKind.i64.wrap (lenL (N.take k) + (t - f)) = lenL (N.take (k + 1)) := by
  have h1 := hI _ (List.mem_of_getElem? hp)
  have h2 := hc.at hp
  have h3 := lenL_bounds hc (by decide) hI k
  have h4 := lenL_bounds hc (by decide) hI (k + 1)
  have h5 := lenL_succ N k _ hp
  dsimp only at h1 h2 h5
  exact ⟨IntWalk.i64_in _ (by omega), by rw [IntWalk.i64_in _ (by omega)]; omega⟩
set_option maxHeartbeats 2000000 in
theorem length_any {w : World} {v : Value} {L : LP} (h : Its w v L) (hI : Inside L (-1152921504606846976) 1152921504606846976) (h9 : L.length ≤ 500) :
    Calls Try.prog 35 #[v] w fun e w' => (∃ N, Is N (hasB L) ∧ e = .returned (.tuple #[.int .i64 (lenL N), .bool true])) ∧ Below w.heap.size w w' := by
  have C1 := Lib.hid (normal_any h h9)
  replace hI := Lib.hid hI
  clear h
  go_enter Try.func35, Try.ntmps35
  go_wp2_with fail
  refine C1.out.mono ?_
  rintro e w1 ⟨⟨r, N, rfl, O, I, hl⟩, b1⟩
  have HI := Lib.hid (I.inside hI.out)
  have HC := Lib.hid I.canon
  have C2 := Lib.hid (isNear_yes (its_of_own O) HI.out (by omega))
  obtain ⟨ad, c, rfl, hc, hf⟩ := its_form (its_of_own O)
  obtain ⟨n, hn⟩ : ∃ n, n = N.length := ⟨_, rfl⟩
  rw [← hn] at hc hl C2 ⊢
  replace hn := Lib.hid hn
  have hn9 : n ≤ 500 := by omega
  have F := Lib.hid hf
  have B1 := Lib.hid b1
  replace I := Lib.hid I
  clear O hf b1 C1 hl h9
  go_wp2_with fail
  refine C2.out.mono ?_
  rintro e w2 ⟨rfl, b2⟩
  have F2 : Hid (∀ (k : Nat) (p : Int × Int), N[k]? = some p → ∃ g, ad = some ⟨g, 0, none⟩ ∧ g < w2.heap.size ∧ w2.cell? ⟨g, k * 2, none⟩ = some (.int .i64 p.1) ∧ w2.cell? ⟨g, k * 2 + 1, none⟩ = some (.int .i64 p.2)) := Lib.hid fun k p hp => by
    obtain ⟨g, e, h1, h2, h3⟩ := F.out k p hp
    exact ⟨g, e, Nat.lt_of_lt_of_le h1 b2.size, (b2.cell (p := ⟨g, _, none⟩) h1).trans h2, (b2.cell (p := ⟨g, _, none⟩) h1).trans h3⟩
  have B2 := Lib.hid (Buf.then_ B1.out b2)
  have hw2 := B2.out.size
  have A0 := Lib.hid (Below.refl w2.heap.size w2)
  clear F B1 b2 C2
  go_wp2_with fail
  go_loopw [15, 5] (fun i s wr => ∃ (k : Nat) (u : Int), k ≤ n ∧ i = .int .i64 k ∧ s = .int .i64 u ∧ Hid (u = lenL (N.take k)) ∧ Hid (Below w2.heap.size w2 wr)) (fun i _ _ => n - (intOf i).toNat)
  case atStart => exact ⟨0, 0, Nat.zero_le _, rfl, rfl, Lib.hid rfl, A0⟩
  case round =>
    clear A0
    obtain ⟨k, u, hk, rfl, rfl, HU, HB⟩ := hrel
    by_cases hlt : k < n
    · obtain ⟨⟨f, t⟩, hp⟩ : ∃ p, N[k]? = some p := ⟨N[k]'(by rw [← hn.out]; exact hlt), List.getElem?_eq_getElem _⟩
      obtain ⟨g, rfl, hg, q0, q1⟩ := F2.out k _ hp
      have k0 := (HB.out.cell (p := ⟨g, _, none⟩) hg).trans q0
      have k1 := (HB.out.cell (p := ⟨g, _, none⟩) hg).trans q1
      dsimp only at k0 k1
      obtain ⟨s1, s2⟩ := step_wraps HC.out HI.out hp
      rw [← HU.out] at s2
      obtain ⟨u2, hu2⟩ : ∃ u2, u2 = lenL (N.take (k + 1)) := ⟨_, rfl⟩
      obtain ⟨d, hd⟩ : ∃ d, d = t - f := ⟨_, rfl⟩
      rw [← hu2] at s2
      rw [← hd] at s1 s2
      replace hu2 := Lib.hid hu2
      have s1' : IntKind.i64.wrap (t - f) = d := by rw [← hd]; exact s1
      have B3 := Lib.hid (HB.out.alloc HB.out.size (.cells #[.int .i64 f, .int .i64 t] 49))
      replace hp := Lib.hid hp
      replace hd := Lib.hid hd
      clear q0 q1 HU s1
      go_wp2_with fail
      go_roundw
      case rel => exact ⟨k + 1, u2, by omega, by go_num, rfl, hu2, B3⟩
      case measure => simp [intOf]; omega
    · obtain rfl : k = n := by omega
      have e : Hid (u = lenL N) := Lib.hid (by rw [HU.out, take_all N k (by rw [hn.out]; exact Nat.le_refl _)])
      go_wp2_with fail
      go_ret2
      exact ⟨⟨N, I.out, by rw [e.out]; rfl⟩, B2.out.trans (HB.out.mono hw2)⟩
/-- A cell of an owned row is stored. -/
theorem store_from {w : World} {B g c n : Nat} {a b : LP} {f t : Int} (x : Int) (O : w.ownsRow B 49 2 (.slice (some ⟨g, 0, none⟩) n c) n (cells2 (a ++ (f, t) :: b))) (k : Nat) (hk : k = a.length) :
    (w.setCell ⟨g, k * 2, none⟩ (.int .i64 x)).ownsRow B 49 2 (.slice (some ⟨g, 0, none⟩) n c) n (cells2 (a ++ (x, t) :: b)) := by
  have := (World.ownsRow.stored O (k * 2) (.int .i64 x)).1
  have e : (cells2 (a ++ (f, t) :: b)).set (k * 2) (.int .i64 x) = cells2 (a ++ (x, t) :: b) := by
    subst hk
    rw [cells2_append, cells2_append, List.set_append_right _ _ (by rw [cells2_length]; omega), cells2_length, Nat.sub_self]
    simp [cells2]
  rwa [e] at this
theorem store_to {w : World} {B g c n : Nat} {a b : LP} {f t : Int} (x : Int) (O : w.ownsRow B 49 2 (.slice (some ⟨g, 0, none⟩) n c) n (cells2 (a ++ (f, t) :: b))) (k : Nat) (hk : k = a.length) :
    (w.setCell ⟨g, k * 2 + 1, none⟩ (.int .i64 x)).ownsRow B 49 2 (.slice (some ⟨g, 0, none⟩) n c) n (cells2 (a ++ (f, x) :: b)) := by
  have := (World.ownsRow.stored O (k * 2 + 1) (.int .i64 x)).1
  have e : (cells2 (a ++ (f, t) :: b)).set (k * 2 + 1) (.int .i64 x) = cells2 (a ++ (f, x) :: b) := by
    subst hk
    rw [cells2_append, cells2_append, List.set_append_right _ _ (by rw [cells2_length]; omega), cells2_length]
    have : a.length * 2 + 1 - a.length * 2 = 1 := by omega
    rw [this]
    simp [cells2]
  rwa [e] at this
theorem cells_at {w : World} {B g c n : Nat} {a b : LP} {f t : Int} (O : w.ownsRow B 49 2 (.slice (some ⟨g, 0, none⟩) n c) n (cells2 (a ++ (f, t) :: b))) (k : Nat) (hk : k = a.length) (hn : k < n) :
    w.cell? ⟨g, k * 2, none⟩ = some (.int .i64 f) ∧ w.cell? ⟨g, k * 2 + 1, none⟩ = some (.int .i64 t) := by
  obtain ⟨x, y⟩ := cells2_get (a ++ (f, t) :: b) k (f, t) (by rw [hk]; simp)
  exact ⟨(O.cellAt _ (by omega)).trans x, (O.cellAt _ (by omega)).trans y⟩
/-- The first k of a list are moved. -/
def partL (N : LP) (d : Int) (k : Nat) : LP := moveL (N.take k) d ++ N.drop k
theorem partL_at {N : LP} {d : Int} {k : Nat} {f t : Int} (h : N[k]? = some (f, t)) : partL N d k = moveL (N.take k) d ++ (f, t) :: N.drop (k + 1) ∧ partL N d (k + 1) = moveL (N.take k) d ++ (f + d, t + d) :: N.drop (k + 1) ∧ k = (moveL (N.take k) d).length := by
  obtain ⟨hk, e⟩ := List.getElem?_eq_some_iff.1 h
  refine ⟨?_, ?_, by simp [moveL]; omega⟩
  · unfold partL
    rw [List.drop_eq_getElem_cons hk, e]
  · unfold partL
    rw [List.take_add_one, h]
    simp [moveL]
set_option maxHeartbeats 4000000 in
theorem shift_any {w : World} {v : Value} {L : LP} (d : Int) (h : Its w v L) (hI : Inside L (-1152921504606846976) 1152921504606846976) (h9 : L.length ≤ 500) (d0 : -1152921504606846976 ≤ d) (d1 : d ≤ 1152921504606846976) :
    Calls Try.prog 33 #[v, .int .i64 d] w fun e w' => (∃ r N, Is N (hasB L) ∧ N.length ≤ L.length ∧ e = .returned (.tuple #[r, .int .i64 0]) ∧ Spans w' w.heap.size r (moveL N d)) ∧ Below w.heap.size w w' := by
  have C1 := Lib.hid (normal_any h h9)
  replace hI := Lib.hid hI
  clear h
  go_enter Try.func33, Try.ntmps33
  go_wp2_with fail
  refine C1.out.mono ?_
  rintro e w1 ⟨⟨r, N, rfl, O, I, hl⟩, b1⟩
  have HI := Lib.hid (I.inside hI.out)
  have HC := Lib.hid I.canon
  have C2 := Lib.hid (isNear_yes (its_of_own O) HI.out (by omega))
  have HL := Lib.hid hl
  have hn9 : N.length ≤ 500 := by omega
  have B1 := Lib.hid b1
  have hsh := own_shape O
  have HO := Lib.hid O
  replace I := Lib.hid I
  clear O b1 C1 hl
  rcases hsh with ⟨rfl, hn⟩ | ⟨g, c, rfl, hc, hg⟩
  · obtain rfl : N = [] := List.length_eq_zero_iff.1 hn
    go_wp2_with fail
    refine C2.out.mono ?_
    rintro e w2 ⟨rfl, b2⟩
    have B2 := Lib.hid (Buf.then_ B1.out b2)
    have O2 : Hid (Spans w2 w.heap.size (.slice none 0 0) (moveL [] d)) := Lib.hid (World.ownsRow_nil _ _ _ _)
    go_wp2_with fail
    go_loop [23, 7] (fun i _ => i = .int .i64 0) (fun _ _ => 0)
    case atStart => rfl
    case round =>
      subst hrel
      go_wp2_with fail
      go_ret2
      exact ⟨⟨_, [], I.out, HL.out, rfl, O2.out⟩, B2.out⟩
  · obtain ⟨n, hn⟩ : ∃ n, n = N.length := ⟨_, rfl⟩
    have hgB := (HO.out.lt g rfl).1
    rw [← hn] at hc hn9 HO C2 ⊢
    replace hn := Lib.hid hn
    go_wp2_with fail
    refine C2.out.mono ?_
    rintro e w2 ⟨rfl, b2⟩
    have B2 := Lib.hid (Buf.then_ B1.out b2)
    have O2 : Hid (w2.ownsRow w.heap.size 49 2 (.slice (some ⟨g, 0, none⟩) n c) n (cells2 (partL N d 0))) := Lib.hid (own_below (by have := HO.out; unfold Spans at this; rw [← hn.out] at this; simpa [partL, moveL] using this) b2)
    clear HO b2 B1 C2
    go_wp2_with fail
    go_loopw [23, 7] (fun i _ wr => ∃ k : Nat, k ≤ n ∧ i = .int .i64 k ∧ Hid (wr.ownsRow w.heap.size 49 2 (.slice (some ⟨g, 0, none⟩) n c) n (cells2 (partL N d k))) ∧ Hid (Below w.heap.size w wr)) (fun i _ _ => n - (intOf i).toNat)
    case atStart => exact ⟨0, Nat.zero_le _, rfl, O2, B2⟩
    case round =>
      clear O2 B2
      obtain ⟨k, hk, rfl, HO, HB⟩ := hrel
      by_cases hlt : k < n
      · obtain ⟨⟨f, t⟩, hp⟩ : ∃ p, N[k]? = some p := ⟨N[k]'(by rw [← hn.out]; exact hlt), List.getElem?_eq_getElem _⟩
        obtain ⟨p1, p2, p3⟩ := partL_at (d := d) hp
        have i1 := HI.out _ (List.mem_of_getElem? hp)
        have i2 := HC.out.at hp
        dsimp only at i1 i2
        have o1 := HO.out
        rw [p1] at o1
        obtain ⟨k0, k1⟩ := cells_at o1 k p3 hlt
        have o2 := store_from (f + d) o1 k p3
        have o3 := store_to (t + d) o2 k p3
        rw [← p2] at o3
        obtain ⟨j0, j1⟩ := cells_at o2 k p3 hlt
        have z1 := World.ownsRow.frozenAt o1 (k * 2)
        have z2 := World.ownsRow.frozenAt o2 (k * 2 + 1)
        have w1 : IntKind.i64.wrap (f + d) = f + d := IntWalk.i64_in _ (by omega)
        have w2 : IntKind.i64.wrap (t + d) = t + d := IntWalk.i64_in _ (by omega)
        have O3 := Lib.hid o3
        have B3 := Lib.hid ((HB.out.setCell (p := ⟨g, k * 2, none⟩) hgB (.int .i64 (f + d))).setCell (p := ⟨g, k * 2 + 1, none⟩) hgB (.int .i64 (t + d)))
        have b1 : (k : Int) < n := by omega
        replace hp := Lib.hid hp
        clear o1 o2 o3 p1 p2 p3 HO HB
        go_wp2_with fail
        exact ⟨⟨k + 1, by omega, by go_num, O3, B3⟩, by simp [intOf]; omega⟩
      · obtain rfl : k = n := by omega
        have e : Hid (partL N d k = moveL N d) := Lib.hid (by unfold partL; rw [take_all N k (by rw [hn.out]; exact Nat.le_refl _), List.drop_of_length_le (by rw [hn.out]; exact Nat.le_refl _)]; simp)
        have O4 : Hid (Spans wr w.heap.size (.slice (some ⟨g, 0, none⟩) k c) (moveL N d)) := Lib.hid (by have := HO.out; rw [e.out] at this; unfold Spans; rw [moveL_length, ← hn.out]; exact this)
        go_wp2_with fail
        go_ret2
        exact ⟨⟨_, N, I.out, HL.out, rfl, O4.out⟩, HB.out⟩
/-- What First has still to do. -/
theorem firstL_step {N : LP} {k : Nat} {f t : Int} (h : N[k]? = some (f, t)) (n : Int) : firstL (N.drop k) n = if n < 1 then [] else if n < t - f then [(f, f + n)] else (f, t) :: firstL (N.drop (k + 1)) (n - (t - f)) := by
  obtain ⟨hk, e⟩ := List.getElem?_eq_some_iff.1 h
  rw [List.drop_eq_getElem_cons hk, e]
  rfl
set_option maxRecDepth 100000 in
set_option maxHeartbeats 4000000 in
theorem first_any {w : World} {v : Value} {L : LP} (n0 : Int) (h : Its w v L) (hI : Inside L 0 1152921504606846976) (h9 : L.length ≤ 500) (n00 : 0 ≤ n0) (n09 : n0 ≤ 1152921504606846976) :
    Calls Try.prog 31 #[v, .int .i64 n0] w fun e w' => (∃ r N, Is N (hasB L) ∧ N.length ≤ L.length ∧ e = .returned r ∧ Spans w' w.heap.size r (firstL N n0)) ∧ Below w.heap.size w w' := by
  obtain ⟨i0, hi, hz0, hz1, hz2⟩ := info_get infoS
  have C1 := Lib.hid (normal_any h h9)
  replace hI := Lib.hid hI
  clear h
  go_enter Try.func31, Try.ntmps31
  go_wp2_with fail
  refine C1.out.mono ?_
  rintro e w1 ⟨⟨r, N, rfl, O, I, hl⟩, b1⟩
  have HI := Lib.hid (I.inside hI.out)
  have HC := Lib.hid I.canon
  have HL := Lib.hid hl
  obtain ⟨ad, c, rfl, hc, hf⟩ := its_form (its_of_own O)
  obtain ⟨m, hn⟩ : ∃ m, m = N.length := ⟨_, rfl⟩
  rw [← hn] at hc hl ⊢
  replace hn := Lib.hid hn
  have hn9 : m ≤ 500 := by omega
  have F := Lib.hid hf
  have B1 := Lib.hid b1
  have hw1 := b1.size
  have A0 := Lib.hid (Below.refl w1.heap.size w1)
  have Z0 : Hid (Spans w1 w1.heap.size (.slice none 0 0) []) := Lib.hid (World.ownsRow_nil _ _ _ _)
  replace I := Lib.hid I
  clear O hf b1 C1 hl h9
  go_wp2_with fail
  go_loopw [12, 5, 1] (fun i s x wr => ∃ (k : Nat) (u : Int) (S : LP), k ≤ m ∧ i = .int .i64 k ∧ x = .int .i64 u ∧ 0 ≤ u ∧ u ≤ 1152921504606846976 ∧ Hid (S.length ≤ k) ∧ Hid (S ++ firstL (N.drop k) u = firstL N n0) ∧ Hid (Spans wr w1.heap.size s S) ∧ Hid (Below w1.heap.size w1 wr)) (fun i _ _ _ => m - (intOf i).toNat)
  case atStart => exact ⟨0, n0, [], Nat.zero_le _, rfl, rfl, n00, n09, Lib.hid (Nat.le_refl _), Lib.hid rfl, Z0, A0⟩
  case round =>
    clear A0 Z0
    obtain ⟨k, u, S, hk, rfl, rfl, u0, u9, HS, HF, HO, HB⟩ := hrel
    by_cases hlt : k < m
    · obtain ⟨⟨f, t⟩, hp⟩ : ∃ p, N[k]? = some p := ⟨N[k]'(by rw [← hn.out]; exact hlt), List.getElem?_eq_getElem _⟩
      have hstep := firstL_step hp u
      obtain ⟨g, rfl, hg, q0, q1⟩ := F.out k _ hp
      have k0 := (HB.out.cell (p := ⟨g, _, none⟩) hg).trans q0
      have k1 := (HB.out.cell (p := ⟨g, _, none⟩) hg).trans q1
      have i1 := HI.out _ (List.mem_of_getElem? hp)
      have i2 := HC.out.at hp
      dsimp only at k0 k1 i1 i2
      have hs9 := HS.out
      have B3 := Lib.hid (HB.out.alloc HB.out.size (.cells #[.int .i64 f, .int .i64 t] 49))
      replace hp := Lib.hid hp
      clear q0 q1
      by_cases hu : u < 1
      · have e : Hid (firstL N n0 = S) := Lib.hid (by rw [← HF.out, hstep, if_pos hu]; simp)
        clear HF hstep
        have d1 : decide (u < 1) = true := decide_eq_true hu
        have O3 := Lib.hid (own_below HO.out (new_block (.cells #[.int .i64 f, .int .i64 t] 49)))
        go_wp2_with fail
        go_ret
        exact ⟨⟨_, N, I.out, HL.out, rfl, by rw [e.out]; exact own_mono O3.out hw1⟩, B1.out.trans (B3.out.mono hw1)⟩
      · have d1 : decide (u < 1) = false := decide_eq_false hu
        have v1 : IntKind.u64.wrap t = t := by simp [IntKind.wrap, IntKind.bits, IntKind.signed]; omega
        have v2 : IntKind.u64.wrap f = f := by simp [IntKind.wrap, IntKind.bits, IntKind.signed]; omega
        have v3 : IntKind.u64.wrap (t - f) = t - f := by simp [IntKind.wrap, IntKind.bits, IntKind.signed]; omega
        have v4 : IntKind.u64.wrap u = u := by simp [IntKind.wrap, IntKind.bits, IntKind.signed]; omega
        by_cases hd : u < t - f
        · have e : Hid (firstL N n0 = S ++ [(f, f + u)]) := Lib.hid (by rw [← HF.out, hstep, if_neg hu, if_pos hd])
          clear HF hstep
          have d2 : decide (u < t - f) = true := decide_eq_true hd
          have v5 : IntKind.i64.wrap (f + u) = f + u := IntWalk.i64_in _ (by omega)
          have one : Hid (∀ x ∈ [Value.int .i64 f, .int .i64 (f + u)], x.oneCell' = true) := Lib.hid (by simp; exact ⟨rfl, rfl⟩)
          have O3 := Lib.hid (own_below (own_below HO.out (new_block (.cells #[.int .i64 f, .int .i64 t] 49))) (new_block (.cells #[.int .i64 f, .int .i64 (f + u)] 49)))
          have hb3 : Hid (((wr.alloc (.cells #[.int .i64 f, .int .i64 t] 49)).alloc (.cells #[.int .i64 f, .int .i64 (f + u)] 49)).heap[wr.heap.size + 1]? = some (.cells #[.int .i64 f, .int .i64 (f + u)] 49 (0, 0))) := Lib.hid (by simpa using heap_alloc_new (wr.alloc (.cells #[.int .i64 f, .int .i64 t] 49)) (.cells #[.int .i64 f, .int .i64 (f + u)] 49))
          have B4 := Lib.hid (B3.out.alloc B3.out.size (.cells #[.int .i64 f, .int .i64 (f + u)] 49))
          have hB3 := Lib.hid B4.out.size
          go_wp2_with (at_builtin; refine wpList_append_lies _ rfl (.tmp 29) (.tmp 37) 23 rfl w1.heap.size 49 i0 (.agg #[.int .i64 0, .int .i64 0]) 2 16 Try.underlying23 hi hz0 hz1 hz2 rfl (by decide) _ S.length (cells2 S) rfl O3.out ⟨wr.heap.size + 1, 0, none⟩ 1 1 [.int .i64 f, .int .i64 (f + u)] rfl rfl (World.news_of_block hb3.out) one.out (by decide) (by unfold maxLen; omega) (by omega) hB3.out _ rfl ?_; intro gq cq w5 O2 G2 hg2 hl2)
          have O5 : Hid (Spans w5 w.heap.size (.slice (some ⟨gq, 0, none⟩) (S.length + 1) cq) (firstL N n0)) := Lib.hid (by rw [e.out]; refine own_mono (B := w1.heap.size) ?_ hw1; rw [cells2_snoc]; simpa using O2)
          have B5 := Lib.hid (B1.out.trans ((B4.out.grown G2 hB3.out (fun k hk => (O3.out.lt k hk).1)).mono hw1))
          clear O2 G2 hg2 hl2
          go_ret
          exact ⟨⟨_, N, I.out, HL.out, rfl, O5.out⟩, B5.out⟩
        · have e : Hid ((S ++ [(f, t)]) ++ firstL (N.drop (k + 1)) (u - (t - f)) = firstL N n0) := Lib.hid (by rw [← HF.out, hstep, if_neg hu, if_neg hd]; simp)
          clear HF hstep
          have d2 : decide (u < t - f) = false := decide_eq_false hd
          have v6 : IntKind.i64.wrap (t - f) = t - f := IntWalk.i64_in _ (by omega)
          have v7 : IntKind.i64.wrap (u - (t - f)) = u - (t - f) := IntWalk.i64_in _ (by omega)
          have one : Hid (∀ x ∈ [Value.int .i64 f, .int .i64 t], x.oneCell' = true) := Lib.hid (by simp; exact ⟨rfl, rfl⟩)
          have O3 := Lib.hid (own_below (own_below HO.out (new_block (.cells #[.int .i64 f, .int .i64 t] 49))) (new_block (.cells #[.int .i64 f, .int .i64 (t)] 49)))
          have hb3 : Hid (((wr.alloc (.cells #[.int .i64 f, .int .i64 t] 49)).alloc (.cells #[.int .i64 f, .int .i64 (t)] 49)).heap[wr.heap.size + 1]? = some (.cells #[.int .i64 f, .int .i64 (t)] 49 (0, 0))) := Lib.hid (by simpa using heap_alloc_new (wr.alloc (.cells #[.int .i64 f, .int .i64 t] 49)) (.cells #[.int .i64 f, .int .i64 (t)] 49))
          have B4 := Lib.hid (B3.out.alloc B3.out.size (.cells #[.int .i64 f, .int .i64 (t)] 49))
          have hB3 := Lib.hid B4.out.size
          go_wp2_with (at_builtin; refine wpList_append_lies _ rfl (.tmp 39) (.tmp 41) 23 rfl w1.heap.size 49 i0 (.agg #[.int .i64 0, .int .i64 0]) 2 16 Try.underlying23 hi hz0 hz1 hz2 rfl (by decide) _ S.length (cells2 S) rfl O3.out ⟨wr.heap.size + 1, 0, none⟩ 1 1 [.int .i64 f, .int .i64 (t)] rfl rfl (World.news_of_block hb3.out) one.out (by decide) (by unfold maxLen; omega) (by omega) hB3.out _ rfl ?_; intro gq cq w5 O2 G2 hg2 hl2)
          have B5 := Lib.hid (B4.out.grown G2 hB3.out (fun k hk => (O3.out.lt k hk).1))
          have O5 : Hid (Spans w5 w1.heap.size (.slice (some ⟨gq, 0, none⟩) (S.length + 1) cq) (S ++ [(f, t)])) := Lib.hid (by unfold Spans; rw [cells2_snoc]; simpa using O2)
          clear O2 G2 hg2 hl2 O3 hb3 B4 hB3 one
          go_wp2_with fail
          go_roundw
          case rel => exact ⟨k + 1, u - (t - f), S ++ [(f, t)], by omega, by go_num, rfl, by omega, by omega, Lib.hid (by simp; omega), e, O5, B5⟩
          case measure => simp [intOf]; omega
    · obtain rfl : k = m := by omega
      have e : Hid (firstL N n0 = S) := Lib.hid (by rw [← HF.out, List.drop_of_length_le (by rw [hn.out]; exact Nat.le_refl _)]; simp [firstL])
      go_wp2_with fail
      go_ret
      exact ⟨⟨_, N, I.out, HL.out, rfl, by rw [e.out]; exact own_mono HO.out hw1⟩, B1.out.trans (HB.out.mono hw1)⟩
end Spn
end Go.Proofs.Ytfmhfhggogjbkaa

/- span.Meet and span.Cut. -/
set_option linter.unusedVariables false
set_option linter.unusedSimpArgs false
namespace Go.Proofs.Ytfmhfhggogjbkaa
open Go.RowKit Dice
namespace Spn
open Sp (cells2 cells2_snoc cells2_get Spans own_kept own_below own_mono own_shape)
structure Me (A B : LP) (i k : Nat) (N : LP) : Prop where
  is : Is N (meetF A B i k)
  len : N.length ≤ i + k
  ord : ∀ p q, A[i]? = some p → B[k]? = some q → Le N (max p.1 q.1)
theorem Me.start (A B : LP) : Me A B 0 0 [] := ⟨Is.nil (meet_start A B), Nat.le_refl _, fun _ _ _ _ => Le.nil _⟩
theorem Me.left {A B : LP} {i k : Nat} {N : LP} (hA : Canon A) (hB : Canon B) (h : Me A B i k N) {p q : Int × Int} (hp : A[i]? = some p) (hq : B[k]? = some q) (hle : p.2 ≤ q.2) : Me A B (i + 1) k (addL N (max p.1 q.1, min p.2 q.2)) := by
  have hl := h.ord p q hp hq
  have A3 := addL_spec h.is.canon (s := (max p.1 q.1, min p.2 q.2)) hl
  refine ⟨(h.is.add (s := (max p.1 q.1, min p.2 q.2)) hl).congr fun x => (meet_left hB hp hq hle x).symm, by have := A3.2.2.2; have := h.len; omega, fun p' q' hp' hq' => A3.2.2.1.mono ?_⟩
  have := hA.get (Nat.lt_succ_self i) hp hp'
  have := hA.at hp
  rw [hq] at hq'
  cases hq'
  show max p.1 q.1 ≤ max p'.1 q.1
  omega
theorem Me.right {A B : LP} {i k : Nat} {N : LP} (hA : Canon A) (hB : Canon B) (h : Me A B i k N) {p q : Int × Int} (hp : A[i]? = some p) (hq : B[k]? = some q) (hle : q.2 ≤ p.2) : Me A B i (k + 1) (addL N (max p.1 q.1, min p.2 q.2)) := by
  have hl := h.ord p q hp hq
  have A3 := addL_spec h.is.canon (s := (max p.1 q.1, min p.2 q.2)) hl
  refine ⟨(h.is.add (s := (max p.1 q.1, min p.2 q.2)) hl).congr fun x => (meet_right hA hp hq hle x).symm, by have := A3.2.2.2; have := h.len; omega, fun p' q' hp' hq' => A3.2.2.1.mono ?_⟩
  have := hB.get (Nat.lt_succ_self k) hq hq'
  have := hB.at hq
  rw [hp] at hp'
  cases hp'
  show max p.1 q.1 ≤ max p.1 q'.1
  omega
theorem Me.stop {A B : LP} {i k : Nat} {N : LP} (h : Me A B i k N) (hi : A.length ≤ i ∨ B.length ≤ k) : Is N (fun x => hasB A x && hasB B x) := h.is.congr fun x => meet_end hi x
set_option maxRecDepth 100000 in
set_option maxHeartbeats 4000000 in
theorem meet_any {w : World} {va vb : Value} {A B : LP} (ha : Its w va A) (hb : Its w vb B) (h9a : A.length ≤ 200) (h9b : B.length ≤ 200) :
    Calls Try.prog 18 #[va, vb] w fun e w' => (∃ r N, e = .returned r ∧ Spans w' w.heap.size r N ∧ Is N (fun x => hasB A x && hasB B x) ∧ N.length ≤ A.length + B.length) ∧ Below w.heap.size w w' := by
  have C1 := Lib.hid (normal_any ha (by omega))
  replace hb := Lib.hid hb
  clear ha
  go_enter Try.func18, Try.ntmps18
  go_wp2_with fail
  refine C1.out.mono ?_
  rintro e w1 ⟨⟨ra, Na, rfl, Oa, Ia, la⟩, b1⟩
  have C2 := Lib.hid (normal_any (hb.out.keep b1) (by omega))
  go_wp2_with fail
  refine C2.out.mono ?_
  rintro e w2 ⟨⟨rb, Nb, rfl, Ob, Ib, lb⟩, b2⟩
  have hw1 : w.heap.size ≤ w1.heap.size := b1.size
  have hw2 : w1.heap.size ≤ w2.heap.size := b2.size
  have W2 := Lib.hid (Buf.then_ b1 b2)
  obtain ⟨ad, c, rfl, hc, fa⟩ := its_form (its_of_own (own_below Oa b2))
  obtain ⟨ad', c', rfl, hc', fb⟩ := its_form (its_of_own Ob)
  obtain ⟨n, hn⟩ : ∃ n, n = Na.length := ⟨_, rfl⟩
  obtain ⟨m, hm⟩ : ∃ m, m = Nb.length := ⟨_, rfl⟩
  rw [← hn] at hc la ⊢
  rw [← hm] at hc' lb ⊢
  have hn9 : n ≤ 200 := by omega
  have hm9 : m ≤ 200 := by omega
  have FA := Lib.hid fa
  have FB := Lib.hid fb
  have HA := Lib.hid Ia
  have HBb := Lib.hid Ib
  have LA := Lib.hid la
  have LB := Lib.hid lb
  replace hn := Lib.hid hn
  replace hm := Lib.hid hm
  have B3 : Hid (Below w2.heap.size w2 w2) := Lib.hid (Below.refl _ _)
  have O3 : Hid (Spans w2 w2.heap.size (.slice none 0 0) []) := Lib.hid (World.ownsRow_nil _ _ _ _)
  clear Oa Ob b1 b2 fa fb Ia Ib la lb C1 C2 hb
  go_wp2_with fail
  go_loopw [5, 6, 7] (fun s si sk wr => ∃ (i k : Nat) (N : LP), i ≤ n ∧ k ≤ m ∧ si = .int .i64 i ∧ sk = .int .i64 k ∧ Hid (Spans wr w2.heap.size s N) ∧ Hid (Me Na Nb i k N) ∧ Hid (Below w2.heap.size w2 wr)) (fun _ si sk _ => (n - (intOf si).toNat) + (m - (intOf sk).toNat))
  case atStart => exact ⟨0, 0, [], Nat.zero_le _, Nat.zero_le _, rfl, rfl, O3, Lib.hid (Me.start _ _), B3⟩
  case round =>
    clear O3 B3
    obtain ⟨i, k, N, hi9, hk9, rfl, rfl, HO, HU, HB⟩ := hrel
    have hlen := HU.out.len
    by_cases hin : i < n
    · by_cases hkm : k < m
      · obtain ⟨⟨f, t⟩, hp⟩ : ∃ p, Na[i]? = some p := ⟨Na[i]'(by rw [← hn.out]; exact hin), List.getElem?_eq_getElem _⟩
        obtain ⟨g, rfl, hg, a0, a1⟩ := FA.out i _ hp
        obtain ⟨⟨f2, t2⟩, hp2⟩ : ∃ p, Nb[k]? = some p := ⟨Nb[k]'(by rw [← hm.out]; exact hkm), List.getElem?_eq_getElem _⟩
        obtain ⟨g2, rfl, hg2, b0, b1⟩ := FB.out k _ hp2
        have V : Hid (∀ w', Below w2.heap.size w2 w' → w'.cell? ⟨g, i * 2, none⟩ = some (.int .i64 f) ∧ w'.cell? ⟨g, i * 2 + 1, none⟩ = some (.int .i64 t) ∧ w'.cell? ⟨g2, k * 2, none⟩ = some (.int .i64 f2) ∧ w'.cell? ⟨g2, k * 2 + 1, none⟩ = some (.int .i64 t2)) := Lib.hid fun w' h => ⟨(h.cell (p := ⟨g, _, none⟩) hg).trans a0, (h.cell (p := ⟨g, _, none⟩) hg).trans a1, (h.cell (p := ⟨g2, _, none⟩) hg2).trans b0, (h.cell (p := ⟨g2, _, none⟩) hg2).trans b1⟩
        have C := fun q => add_any (max f f2) (min t t2) (own_below HO.out (Buf.below_drewN (Below.refl _ wr) q)) HB.out.size (by omega)
        replace C := Lib.hid C
        have CD := Lib.hid (add_any (max f f2) (min t t2) (own_below HO.out (Below.refl wr.heap.size wr).drew) HB.out.size (by omega))
        have BD := Lib.hid HB.out.drew
        obtain ⟨v1, v2, v3, v4⟩ := V.out _ (Buf.below_drewN HB.out 1)
        have bi : (i : Int) < n := by omega
        have bk : (k : Int) < m := by omega
        have VQ : Hid (∀ q, (wr.drewN q).cell? ⟨g, i * 2, none⟩ = some (.int .i64 f) ∧ (wr.drewN q).cell? ⟨g, i * 2 + 1, none⟩ = some (.int .i64 t) ∧ (wr.drewN q).cell? ⟨g2, k * 2, none⟩ = some (.int .i64 f2) ∧ (wr.drewN q).cell? ⟨g2, k * 2 + 1, none⟩ = some (.int .i64 t2)) := Lib.hid fun q => V.out _ (Buf.below_drewN HB.out q)
        clear a0 a1 b0 b1
        replace hp := Lib.hid hp
        replace hp2 := Lib.hid hp2
        go_wp2_with fail
        have VD : wr.drew.cell? ⟨g, i * 2, none⟩ = some (.int .i64 f) ∧ wr.drew.cell? ⟨g, i * 2 + 1, none⟩ = some (.int .i64 t) ∧ wr.drew.cell? ⟨g2, k * 2, none⟩ = some (.int .i64 f2) ∧ wr.drew.cell? ⟨g2, k * 2 + 1, none⟩ = some (.int .i64 t2) := VQ.out 1
        go_region_held3 (fun w' => w'.cell? ⟨g, i * 2, none⟩ = some (.int .i64 f) ∧ w'.cell? ⟨g, i * 2 + 1, none⟩ = some (.int .i64 t) ∧ w'.cell? ⟨g2, k * 2, none⟩ = some (.int .i64 f2) ∧ w'.cell? ⟨g2, k * 2 + 1, none⟩ = some (.int .i64 t2)) (first | (with_reducible exact VD) | (with_reducible exact VQ.out _) | (with_reducible exact V.out _ (by assumption)))
          ((first
            | (go_at_call 56; (with_reducible refine CD.out.mono ?_); rintro e w4 ⟨⟨s', rfl, O4, hk4⟩, G4⟩; have B4 := Lib.hid (BD.out.grown G4 HB.out.size (fun k hk => (HO.out.lt k hk).1)); have B4' := B4.out)
            | (go_at_call 56; (with_reducible refine (C.out _).mono ?_); rintro e w4 ⟨⟨s', rfl, O4, hk4⟩, G4⟩; have B4 := Lib.hid ((Buf.below_drewN HB.out _).grown G4 HB.out.size (fun k hk => (HO.out.lt k hk).1)); have B4' := B4.out)))
        all_goals
          obtain ⟨v1, v2, v3, v4⟩ := V.out _ B4.out
          clear VD VQ V C CD BD B4'
          by_cases hlt : t < t2
          · have U := Lib.hid (HU.out.left HA.out.canon HBb.out.canon hp.out hp2.out (by show t ≤ t2; omega))
            have d1 : decide (t < t2) = true := decide_eq_true hlt
            clear HU HO HB
            go_wp2_with fail
            go_quiet (fail)
            go_wp2_with fail
            go_roundw
            case rel => exact ⟨i + 1, k, _, by omega, by omega, by go_num, by go_num, Lib.hid (own_below O4 (Buf.below_drewN (Below.refl _ _) _)), U, Lib.hid (Buf.below_drewN B4.out _)⟩
            case measure => simp [intOf]; omega
          · have U := Lib.hid (HU.out.right HA.out.canon HBb.out.canon hp.out hp2.out (by show t2 ≤ t; omega))
            have d1 : decide (t < t2) = false := decide_eq_false hlt
            clear HU HO HB
            go_wp2_with fail
            go_quiet (fail)
            go_wp2_with fail
            go_roundw
            case rel => exact ⟨i, k + 1, _, by omega, by omega, by go_num, by go_num, Lib.hid (own_below O4 (Buf.below_drewN (Below.refl _ _) _)), U, Lib.hid (Buf.below_drewN B4.out _)⟩
            case measure => simp [intOf]; omega
      · obtain rfl : k = m := by omega
        have U := Lib.hid (HU.out.stop (.inr (by rw [hm.out]; exact Nat.le_refl _)))
        go_wp2_with fail
        go_ret
        refine ⟨⟨_, N, rfl, own_mono HO.out (Nat.le_trans hw1 hw2), U.out.congr fun x => by rw [HA.out.has, HBb.out.has], ?_⟩, W2.out.trans (HB.out.mono (Nat.le_trans hw1 hw2))⟩
        have := LA.out
        have := LB.out
        omega
    · obtain rfl : i = n := by omega
      have U := Lib.hid (HU.out.stop (.inl (by rw [hn.out]; exact Nat.le_refl _)))
      go_wp2_with fail
      go_ret
      refine ⟨⟨_, N, rfl, own_mono HO.out (Nat.le_trans hw1 hw2), U.out.congr fun x => by rw [HA.out.has, HBb.out.has], ?_⟩, W2.out.trans (HB.out.mono (Nat.le_trans hw1 hw2))⟩
      have := LA.out
      have := LB.out
      omega
set_option maxHeartbeats 2000000 in
theorem cut_any {w : World} {v : Value} {A : LP} (x y : Int) (h : Its w v A) (h9 : A.length ≤ 199) :
    Calls Try.prog 29 #[v, .int .i64 x, .int .i64 y] w fun e w' => (∃ r N, e = .returned r ∧ Spans w' w.heap.size r N ∧ Is N (fun z => hasB A z && decide (x ≤ z ∧ z < y)) ∧ N.length ≤ A.length + 1) ∧ Below w.heap.size w w' := by
  have H := Lib.hid h
  clear h
  have W1 := Lib.hid (new_block (w := w) (.cells #[.int .i64 x, .int .i64 y] 49))
  have K := c2 (heap_alloc_new w (.cells #[.int .i64 x, .int .i64 y] 49))
  have I2 : Hid (Its (w.alloc (.cells #[.int .i64 x, .int .i64 y] 49)) (.slice (some ⟨w.heap.size, 0, none⟩) 1 1) [(x, y)]) := Lib.hid (.inr ⟨_, 1, rfl, Nat.le_refl _, by simp, fun k p hp => by
    have hk : k = 0 := by have := (List.getElem?_eq_some_iff.1 hp).1; simp at this; omega
    subst hk
    simp at hp
    subst hp
    exact K⟩)
  have C := Lib.hid (meet_any (H.out.keep W1.out) I2.out (by omega) (by simp))
  clear K
  go_enter Try.func29, Try.ntmps29
  go_wp2_with (go_at_call 18; with_reducible refine C.out.mono ?_; rintro e w2 ⟨⟨r, N, rfl, O, I, hl⟩, b⟩)
  go_ret
  exact ⟨⟨_, N, rfl, own_mono O W1.out.size, I.congr fun z => by simp [hasB_cons, hasB_nil], by simpa using hl⟩, Buf.then_ W1.out b⟩
end Spn
end Go.Proofs.Ytfmhfhggogjbkaa

/- span.Minus. -/
set_option linter.unusedVariables false
set_option linter.unusedSimpArgs false
namespace Go.Proofs.Ytfmhfhggogjbkaa
open Go.RowKit Dice
namespace Spn
open Sp (cells2 cells2_snoc cells2_get Spans own_kept own_below own_mono own_shape)
structure Mi (A B : LP) (i k : Nat) (N : LP) : Prop where
  is : Is N (fun x => hasB (A.take i) x && !hasB B x)
  bef : ∀ (j : Nat) (r p : Int × Int), j < k → B[j]? = some r → A[i]? = some p → r.2 ≤ p.1
  le : ∀ p, A[i]? = some p → Le N p.1
  len : N.length ≤ k + 2 * i
structure Mj (A B : LP) (i k : Nat) (lo f t : Int) (N : LP) : Prop where
  is : Is N (minusF A B i lo f)
  bef : ∀ (j : Nat) (r : Int × Int), j < k → B[j]? = some r → r.2 ≤ f
  lo : lo ≤ f
  lt : f < t
  le : Le N f
  len : N.length ≤ k + 2 * i
theorem Mi.start (A B : LP) : Mi A B 0 0 [] := ⟨Is.nil (by simp [hasB]), fun j _ _ h => absurd h (Nat.not_lt_zero j), fun _ _ => Le.nil _, Nat.zero_le _⟩
theorem Mj.start {A B N : LP} {i k0 k : Nat} {lo t : Int} (h : Mi A B i k0 N) (hp : A[i]? = some (lo, t)) (hk : k0 ≤ k) (hb : ∀ (j : Nat) (r : Int × Int), j < k → B[j]? = some r → r.2 ≤ lo) (hlt : lo < t) : Mj A B i k lo lo t N :=
  ⟨h.is.congr fun x => (minus_next A B i lo x).symm, hb, Int.le_refl _, hlt, h.le _ hp, by have := h.len; omega⟩
theorem Mj.next {A B N : LP} {i k : Nat} {lo f t : Int} (h : Mj A B i k lo f t N) (hB : Canon B) {q : Int × Int} (hq : B[k]? = some q) (hlt : max f q.2 < t) : Mj A B i (k + 1) lo (max f q.2) t (addL N (f, q.1)) := by
  have A3 := addL_spec h.is.canon (s := (f, q.1)) h.le
  refine ⟨(h.is.add (s := (f, q.1)) h.le).congr fun x => (minus_step hB hq h.bef h.lo x).symm, fun j r hj hr => ?_, by have := h.lo; omega, hlt, A3.2.2.1.mono (by show f ≤ _; omega), by have := A3.2.2.2; have := h.len; omega⟩
  by_cases e : j = k
  · subst e; rw [hq] at hr; cases hr; omega
  · have := h.bef j r (by omega) hr; omega
theorem Mj.over {A B N : LP} {i k : Nat} {lo f t : Int} (h : Mj A B i k lo f t N) (hA : Canon A) (hB : Canon B) {q : Int × Int} (hp : A[i]? = some (lo, t)) (hq : B[k]? = some q) (h1 : q.1 < t) (h2 : t ≤ max f q.2) : Mi A B (i + 1) k (addL (addL N (f, q.1)) (max f q.2, t)) := by
  have A3 := addL_spec h.is.canon (s := (f, q.1)) h.le
  have h3 := h.lt
  rw [addL_no _ (max f q.2, t) h2]
  refine ⟨(h.is.add (s := (f, q.1)) h.le).congr fun x => (minus_over hB hp hq h.bef h.lo (by omega) h1 (by omega) x).symm, fun j r p hj hr hp' => ?_, fun p hp' => A3.2.2.1.mono ?_, by have := A3.2.2.2; have := h.len; omega⟩
  · have a1 := h.bef j r hj hr
    have a2 := hA.get (Nat.lt_succ_self i) hp hp'
    dsimp only at a2
    omega
  · have a2 := hA.get (Nat.lt_succ_self i) hp hp'
    dsimp only at a2 ⊢
    omega
theorem Mj.rest {A B N : LP} {i k : Nat} {lo f t : Int} (h : Mj A B i k lo f t N) (hA : Canon A) (hB : Canon B) (hp : A[i]? = some (lo, t)) (hn : ∀ q, B[k]? = some q → t ≤ q.1) : Mi A B (i + 1) k (addL N (f, t)) := by
  have A3 := addL_spec h.is.canon (s := (f, t)) h.le
  have h3 := h.lt
  refine ⟨(h.is.add (s := (f, t)) h.le).congr fun x => (minus_rest hB hp h.bef h.lo (by omega) hn x).symm, fun j r p hj hr hp' => ?_, fun p hp' => A3.2.2.1.mono ?_, by have := A3.2.2.2; have := h.len; omega⟩
  · have a1 := h.bef j r hj hr
    have a2 := hA.get (Nat.lt_succ_self i) hp hp'
    dsimp only at a2
    omega
  · have a2 := hA.get (Nat.lt_succ_self i) hp hp'
    dsimp only at a2 ⊢
    omega
theorem Mi.stop {A B : LP} {i k : Nat} {N : LP} (h : Mi A B i k N) (hi : A.length ≤ i) : Is N (fun x => hasB A x && !hasB B x) := by
  have := h.is
  rwa [take_all A i hi] at this
theorem own_set {w : World} {B g8 o : Nat} {v : Value} {L : LP} (h : Spans w B v L) (hne : v.ownBlock ≠ some g8) (u : Value) : Spans (w.setCell ⟨g8, o, none⟩ u) B v L :=
  own_kept h fun k hk => Below.heap_setCell w ⟨g8, o, none⟩ u k (fun e => hne (by rw [hk]; exact congrArg some e))
theorem box_set {w : World} {g8 : Nat} {f t u : Value} {T : TypeId} (h : w.heap[g8]? = some (.cells #[f, t] T (0, 0))) : (w.setCell ⟨g8, 0, none⟩ u).heap[g8]? = some (.cells #[u, t] T (0, 0)) := by
  rw [heap_setCell_same w g8 0 _ T u h]; rfl
set_option maxRecDepth 100000 in
set_option maxHeartbeats 8000000 in
theorem minus_any {w : World} {va vb : Value} {A B : LP} (ha : Its w va A) (hb : Its w vb B) (h9a : A.length ≤ 100) (h9b : B.length ≤ 100) :
    Calls Try.prog 20 #[va, vb] w fun e w' => (∃ r N, e = .returned r ∧ Spans w' w.heap.size r N ∧ Is N (fun x => hasB A x && !hasB B x) ∧ N.length ≤ B.length + 2 * A.length) ∧ Below w.heap.size w w' := by
  have C1 := Lib.hid (normal_any ha (by omega))
  replace hb := Lib.hid hb
  clear ha
  go_enter Try.func20, Try.ntmps20
  go_wp2_with fail
  refine C1.out.mono ?_
  rintro e w1 ⟨⟨ra, Na, rfl, Oa, Ia, la⟩, b1⟩
  have C2 := Lib.hid (normal_any (hb.out.keep b1) (by omega))
  go_wp2_with fail
  refine C2.out.mono ?_
  rintro e w2 ⟨⟨rb, Nb, rfl, Ob, Ib, lb⟩, b2⟩
  have hw1 : w.heap.size ≤ w1.heap.size := b1.size
  have hw2 : w1.heap.size ≤ w2.heap.size := b2.size
  have W2 := Lib.hid (Buf.then_ b1 b2)
  obtain ⟨ad, c, rfl, hc, fa⟩ := its_form (its_of_own (own_below Oa b2))
  obtain ⟨ad', c', rfl, hc', fb⟩ := its_form (its_of_own Ob)
  obtain ⟨n, hn⟩ : ∃ n, n = Na.length := ⟨_, rfl⟩
  obtain ⟨m, hm⟩ : ∃ m, m = Nb.length := ⟨_, rfl⟩
  rw [← hn] at hc la ⊢
  rw [← hm] at hc' lb ⊢
  have hn9 : n ≤ 100 := by omega
  have hm9 : m ≤ 100 := by omega
  have FA := Lib.hid fa
  have FB := Lib.hid fb
  have HA := Lib.hid Ia
  have HBb := Lib.hid Ib
  have LA := Lib.hid la
  have LB := Lib.hid lb
  obtain ⟨g2, hg2⟩ : ∃ g2, ∀ (k : Nat) (p : Int × Int), Nb[k]? = some p → ad' = some ⟨g2, 0, none⟩ := by
    cases ad' with
    | none => exact ⟨0, fun k p hp => by obtain ⟨g, e, _⟩ := fb k p hp; cases e⟩
    | some a => exact ⟨a.block, fun k p hp => by obtain ⟨g, e, _⟩ := fb k p hp; cases e; rfl⟩
  replace hg2 := Lib.hid hg2
  replace hn := Lib.hid hn
  replace hm := Lib.hid hm
  have B3 : Hid (Below w2.heap.size w2 w2) := Lib.hid (Below.refl _ _)
  have O3 : Hid (Spans w2 w2.heap.size (.slice none 0 0) []) := Lib.hid (World.ownsRow_nil _ _ _ _)
  clear Oa Ob b1 b2 fa fb Ia Ib la lb C1 C2 hb
  go_wp2_with fail
  go_loopw [15, 5, 6] (fun si s sk wr => ∃ (i k : Nat) (N : LP), i ≤ n ∧ k ≤ m ∧ si = .int .i64 i ∧ sk = .int .i64 k ∧ Hid (Spans wr w2.heap.size s N) ∧ Hid (Mi Na Nb i k N) ∧ Hid (Below w2.heap.size w2 wr)) (fun si _ _ _ => n - (intOf si).toNat)
  case atStart => exact ⟨0, 0, [], Nat.zero_le _, Nat.zero_le _, rfl, rfl, O3, Lib.hid (Mi.start _ _), B3⟩
  case round =>
    clear O3 B3

    obtain ⟨i, k0, N, hi9, hk9, rfl, rfl, HO, HU, HB⟩ := hrel
    have hlen0 := HU.out.len
    obtain ⟨wo, hwo⟩ : ∃ wo, wo = wr := ⟨_, rfl⟩
    rw [← hwo] at HO HB ⊢
    clear hwo wr
    by_cases hin : i < n
    · obtain ⟨⟨lo, t⟩, hp⟩ : ∃ p, Na[i]? = some p := ⟨Na[i]'(by rw [← hn.out]; exact hin), List.getElem?_eq_getElem _⟩
      obtain ⟨g, rfl, hg, a0, a1⟩ := FA.out i _ hp
      have k1 := (HB.out.cell (p := ⟨g, _, none⟩) hg).trans a0
      have k2 := (HB.out.cell (p := ⟨g, _, none⟩) hg).trans a1
      have hlt := HA.out.canon.at hp
      have hmb := Lib.hid fun (j : Nat) (r : Int × Int) (hj : j < k0) (hr : Nb[j]? = some r) => HU.out.bef j r _ hj hr hp
      dsimp only at k1 k2 hlt
      have bi : (i : Int) < n := by omega
      obtain ⟨w8, hw8⟩ : ∃ w8, w8 = wo.alloc (.cells #[.int .i64 lo, .int .i64 t] 49) := ⟨_, rfl⟩
      have B8 := Lib.hid (show Below w2.heap.size w2 w8 by rw [hw8]; exact HB.out.alloc HB.out.size _)
      have X8 := Lib.hid (show w8.heap[wo.heap.size]? = some (.cells #[.int .i64 lo, .int .i64 t] 49 (0, 0)) by rw [hw8]; exact heap_alloc_new wo _)
      have O8 := Lib.hid (show Spans w8 w2.heap.size u5 N by rw [hw8]; exact own_below HO.out (new_block _))
      have N8 : Hid (u5.ownBlock ≠ some wo.heap.size) := Lib.hid fun e => by have := (HO.out.lt _ e).2; omega
      have g8 : Hid (w2.heap.size ≤ wo.heap.size) := Lib.hid HB.out.size
      replace hp := Lib.hid hp
      clear a0 a1
      go_upto_region 7 with fail
      rw [← hw8]
      clear hw8
      have A8 := Lib.hid (Below.refl w8.heap.size w8)
      go_loopw [6] (fun sk wr => ∃ k : Nat, k0 ≤ k ∧ k ≤ m ∧ sk = .int .i64 k ∧ Hid (∀ (j : Nat) (r : Int × Int), j < k → Nb[j]? = some r → r.2 ≤ lo) ∧ Hid (Below w8.heap.size w8 wr)) (fun sk _ => m - (intOf sk).toNat)
      case atStart => exact ⟨k0, Nat.le_refl _, hk9, rfl, hmb, A8⟩
      case round =>
        clear A8 hmb
        obtain ⟨k, hk0, hk9', rfl, BEF, WA⟩ := hrel
        obtain ⟨x0, x1⟩ := c2 (hop WA.out X8.out)
        by_cases hkm : k < m
        · obtain ⟨⟨f2, t2⟩, hp2⟩ : ∃ p, Nb[k]? = some p := ⟨Nb[k]'(by rw [← hm.out]; exact hkm), List.getElem?_eq_getElem _⟩
          cases hg2.out k _ hp2
          obtain ⟨g', e', hgg, b0, b1⟩ := FB.out k _ hp2
          cases e'
          have j1 := ((B8.out.trans (WA.out.mono B8.out.size)).cell (p := ⟨g2, _, none⟩) hgg).trans b1
          dsimp only at j1
          have bk : (k : Int) < m := by omega
          clear b0 b1
          by_cases hle : t2 ≤ lo
          · have d1 : decide (t2 ≤ lo) = true := decide_eq_true hle
            have BEF' : Hid (∀ (j : Nat) (r : Int × Int), j < k + 1 → Nb[j]? = some r → r.2 ≤ lo) := Lib.hid fun j r hj hr => by
              by_cases e : j = k
              · subst e; rw [hp2] at hr; cases hr; exact hle
              · exact BEF.out j r (by omega) hr
            replace hp2 := Lib.hid hp2
            clear BEF
            go_wp2_with fail
            go_quiet (fail)
            go_wp2_with fail
            go_roundw
            case rel => exact ⟨k + 1, by omega, by omega, by go_num, BEF', Lib.hid (Buf.below_drewN WA.out _)⟩
            case measure => simp [intOf]; omega
          · have d1 : decide (t2 ≤ lo) = false := decide_eq_false hle
            replace hp2 := Lib.hid hp2
            go_wp2_with fail
            go_quiet (fail)
            go_wp2_with fail
            replace WA := Lib.hid (Buf.below_drewN WA.out nq)
            generalize wr.drewN nq = wr at *
            clear hle d1 x0 x1 j1 hp2
            have J0 := Lib.hid (Mj.start HU.out hp.out hk0 BEF.out hlt)
            have OA := Lib.hid (own_below O8.out (show Below w8.heap.size w8 wr from WA.out))
            have XA := Lib.hid (hop WA.out X8.out)
            have BA := Lib.hid (B8.out.trans (WA.out.mono B8.out.size))
            clear BEF WA
            go_loopw [5, 6] (fun s sk wr => ∃ (f : Int) (k : Nat) (N : LP), k ≤ m ∧ sk = .int .i64 k ∧ Hid (Spans wr w2.heap.size s N) ∧ Hid (s.ownBlock ≠ some wo.heap.size) ∧ Hid (wr.heap[wo.heap.size]? = some (.cells #[.int .i64 f, .int .i64 t] 49 (0, 0))) ∧ Hid (Mj Na Nb i k lo f t N) ∧ Hid (Below w2.heap.size w2 wr)) (fun _ sk _ => m - (intOf sk).toNat)
            case atStart => exact ⟨lo, k, N, by omega, rfl, OA, N8, XA, J0, BA⟩
            case round =>
              clear J0 OA XA BA hk0 hk9'
              try clear bk
              try clear d0
              clear hkm
              obtain ⟨f, k, N', hk9', rfl, HO', HN, HX, HJ, HB'⟩ := hrel
              have hl := HJ.out.len
              obtain ⟨x0, x1⟩ := c2 HX.out
              have hft := HJ.out.lt
              have hsz : wo.heap.size < wr.heap.size := (Array.getElem?_eq_some_iff.1 HX.out).1
              by_cases hkm : k < m
              · obtain ⟨⟨f2, t2⟩, hp2⟩ : ∃ p, Nb[k]? = some p := ⟨Nb[k]'(by rw [← hm.out]; exact hkm), List.getElem?_eq_getElem _⟩
                cases hg2.out k _ hp2
                obtain ⟨g', e', hgg, b0, b1⟩ := FB.out k _ hp2
                cases e'
                have V : Hid (∀ w', Below w2.heap.size w2 w' → w'.cell? ⟨g2, k * 2, none⟩ = some (.int .i64 f2) ∧ w'.cell? ⟨g2, k * 2 + 1, none⟩ = some (.int .i64 t2)) := Lib.hid fun w' h => ⟨(h.cell (p := ⟨g2, _, none⟩) hgg).trans b0, (h.cell (p := ⟨g2, _, none⟩) hgg).trans b1⟩
                obtain ⟨j0, j1⟩ := V.out _ HB'.out
                have bk : (k : Int) < m := by omega
                clear b0 b1
                by_cases hb1 : f2 < t
                · have d1 : decide (f2 < t) = true := decide_eq_true hb1
                  go_wp2_with fail
                  go_quiet (fail)
                  go_wp2_with fail
                  obtain ⟨wq, hwq⟩ : ∃ wq, wq = wr.drewN nq := ⟨_, rfl⟩
                  have Bq := Lib.hid (show Below w2.heap.size w2 wq by rw [hwq]; exact Buf.below_drewN HB'.out nq)
                  have Oq := Lib.hid (show Spans wq w2.heap.size u5 N' by rw [hwq]; exact own_below HO'.out (Buf.below_drewN (Below.refl _ wr) nq))
                  have Xq := Lib.hid (show wq.heap[wo.heap.size]? = some (.cells #[.int .i64 f, .int .i64 t] 49 (0, 0)) by rw [hwq]; exact HX.out)
                  rw [← hwq]
                  clear hwq x0 x1 j0 j1 HB' HO' HX
                  have CD := Lib.hid (add_any f f2 (own_below Oq.out (Below.refl wq.heap.size wq).drew) Bq.out.size (by omega))
                  have VD : wq.drew.cell? ⟨wo.heap.size, 0, none⟩ = some (.int .i64 f) ∧ wq.drew.cell? ⟨g2, k * 2, none⟩ = some (.int .i64 f2) := ⟨(c2 Xq.out).1, (V.out _ Bq.out).1⟩
                  go_region_held3 (fun w' => w'.cell? ⟨wo.heap.size, 0, none⟩ = some (.int .i64 f) ∧ w'.cell? ⟨g2, k * 2, none⟩ = some (.int .i64 f2)) (first | (with_reducible exact VD) | (with_reducible exact ⟨q0, q1⟩))
                    ((first
                      | (go_at_call 56; (with_reducible refine CD.out.mono ?_); rintro e w4 ⟨⟨s', rfl, O4, hk4⟩, G4⟩; have X4 := Lib.hid ((G4.block wo.heap.size (Array.getElem?_eq_some_iff.1 Xq.out).1 (fun e => HN.out e.symm)).trans Xq.out); have B4 := Lib.hid (Bq.out.drew.grown G4 Bq.out.size (fun k hk => (Oq.out.lt k hk).1)); have q0 := (c2 X4.out).1; have q1 := (V.out _ B4.out).1)))
                  have N4 : Hid (s'.ownBlock ≠ some wo.heap.size) := Lib.hid fun e => by
                    rcases hk4 _ e with h | h
                    · exact HN.out h
                    · have h2 := (Array.getElem?_eq_some_iff.1 Xq.out).1
                      have h3 : wq.drew.heap.size = wq.heap.size := rfl
                      omega
                  have x0 := (c2 X4.out).1
                  have j1 := (V.out _ B4.out).2
                  have z0 := frozen_of_row w4 wo.heap.size 0 _ _ X4.out
                  replace O4 := Lib.hid O4
                  clear VD CD Oq Bq Xq G4 q0 q1 hk4
                  go_wp2_with fail
                  go_region
                  obtain ⟨w5, hw5⟩ : ∃ w5, w5 = (w4.setCell ⟨wo.heap.size, 0, none⟩ (.int .i64 (max f t2))).drew := ⟨_, rfl⟩
                  have B5 := Lib.hid (show Below w2.heap.size w2 w5 by rw [hw5]; exact (B4.out.setCell (p := ⟨wo.heap.size, 0, none⟩) g8.out _).drew)
                  have O5 := Lib.hid (show Spans w5 w2.heap.size s' (addL N' (f, f2)) by rw [hw5]; exact own_set O4.out N4.out _)
                  have X5 := Lib.hid (show w5.heap[wo.heap.size]? = some (.cells #[.int .i64 (max f t2), .int .i64 t] 49 (0, 0)) by rw [hw5]; exact box_set X4.out)
                  rw [← hw5]
                  clear hw5 O4 X4 B4 x0 j1 z0
                  have hl5 : (addL N' (f, f2)).length ≤ 400 := by have := (addL_spec HJ.out.is.canon (s := (f, f2)) HJ.out.le).2.2.2; omega
                  by_cases hov : t ≤ max f t2
                  · have U := Lib.hid (HJ.out.over HA.out.canon HBb.out.canon hp.out hp2 hb1 hov)
                    have d2 : decide (t ≤ max f t2) = true := decide_eq_true hov
                    have CF := Lib.hid (add_any (max f t2) t O5.out B5.out.size (by omega))
                    obtain ⟨F, hF⟩ : ∃ F, F = max f t2 := ⟨_, rfl⟩
                    rw [← hF] at X5 d2 CF U ⊢
                    obtain ⟨x0, x1⟩ := c2 X5.out
                    replace hF := Lib.hid hF
                    clear hov
                    go_wp2_with fail
                    refine (CF.out).mono ?_
                    rintro e w9 ⟨⟨s9, rfl, O9, hk9⟩, G9⟩
                    have B9 := Lib.hid (B5.out.grown G9 B5.out.size (fun k hk => (O5.out.lt k hk).1))
                    go_wp2_with fail
                    go_roundw
                    case rel => exact ⟨i + 1, k, _, by omega, by omega, by go_num, rfl, Lib.hid O9, U, B9⟩
                    case measure => simp [intOf]; omega
                  · have J' := Lib.hid (HJ.out.next HBb.out.canon hp2 (show max f t2 < t by omega))
                    have d2 : decide (t ≤ max f t2) = false := decide_eq_false hov
                    obtain ⟨F, hF⟩ : ∃ F, F = max f t2 := ⟨_, rfl⟩
                    have J2 : Hid (Mj Na Nb i (k + 1) lo F t (addL N' (f, f2))) := Lib.hid (by rw [hF]; exact J'.out)
                    rw [← hF] at X5 d2 ⊢
                    obtain ⟨x0, x1⟩ := c2 X5.out
                    replace hF := Lib.hid hF
                    clear hov J'
                    go_wp2_with fail
                    go_roundw
                    case rel => exact ⟨F, k + 1, _, by omega, by go_num, O5, N4, X5, J2, B5⟩
                    case measure => simp [intOf]; omega
                · have hb2 : t ≤ f2 := by omega
                  have d1 : decide (f2 < t) = false := decide_eq_false hb1
                  have U := Lib.hid (HJ.out.rest HA.out.canon HBb.out.canon hp.out (fun q hq => by rw [hp2] at hq; cases hq; exact hb2))
                  have CF := Lib.hid fun q => add_any f t (own_below HO'.out (Buf.below_drewN (Below.refl _ wr) q)) HB'.out.size (by omega)
                  have BF := Lib.hid HB'.out
                  go_wp2_with fail
                  go_quiet (fail)
                  go_wp2_with fail
                  refine (CF.out _).mono ?_
                  rintro e w9 ⟨⟨s9, rfl, O9, hk9⟩, G9⟩
                  have B9 := Lib.hid ((Lib.hid (Buf.below_drewN HB'.out _)).out.grown G9 (Lib.hid (Buf.below_drewN HB'.out _)).out.size (fun k hk => (HO'.out.lt k hk).1))
                  go_wp2_with fail
                  go_roundw
                  case rel => exact ⟨i + 1, k, _, by omega, by omega, by go_num, rfl, Lib.hid O9, U, B9⟩
                  case measure => simp [intOf]; omega
              · have d0 : decide (k < m) = false := decide_eq_false hkm
                have hkm' : m ≤ k := by omega
                have U := Lib.hid (HJ.out.rest HA.out.canon HBb.out.canon hp.out (fun q hq => by have := (List.getElem?_eq_some_iff.1 hq).1; rw [← hm.out] at this; omega))
                have CF := Lib.hid fun q => add_any f t (own_below HO'.out (Buf.below_drewN (Below.refl _ wr) q)) HB'.out.size (by omega)
                go_wp2_with fail
                go_quiet (fail)
                go_wp2_with fail
                refine (CF.out _).mono ?_
                rintro e w9 ⟨⟨s9, rfl, O9, hk9⟩, G9⟩
                have B9 := Lib.hid ((Lib.hid (Buf.below_drewN HB'.out _)).out.grown G9 (Lib.hid (Buf.below_drewN HB'.out _)).out.size (fun k hk => (HO'.out.lt k hk).1))
                go_wp2_with fail
                go_roundw
                case rel => exact ⟨i + 1, k, _, by omega, by omega, by go_num, rfl, Lib.hid O9, U, B9⟩
                case measure => simp [intOf]; omega
        · have d0 : decide (k < m) = false := decide_eq_false hkm
          have hkm' : m ≤ k := by omega
          go_wp2_with fail
          go_quiet (fail)
          go_wp2_with fail
          replace WA := Lib.hid (Buf.below_drewN WA.out nq)
          generalize wr.drewN nq = wr at *
          clear x0 x1 hkm'
          have J0 := Lib.hid (Mj.start HU.out hp.out hk0 BEF.out hlt)
          have OA := Lib.hid (own_below O8.out (show Below w8.heap.size w8 wr from WA.out))
          have XA := Lib.hid (hop WA.out X8.out)
          have BA := Lib.hid (B8.out.trans (WA.out.mono B8.out.size))
          clear BEF WA
          go_loopw [5, 6] (fun s sk wr => ∃ (f : Int) (k : Nat) (N : LP), k ≤ m ∧ sk = .int .i64 k ∧ Hid (Spans wr w2.heap.size s N) ∧ Hid (s.ownBlock ≠ some wo.heap.size) ∧ Hid (wr.heap[wo.heap.size]? = some (.cells #[.int .i64 f, .int .i64 t] 49 (0, 0))) ∧ Hid (Mj Na Nb i k lo f t N) ∧ Hid (Below w2.heap.size w2 wr)) (fun _ sk _ => m - (intOf sk).toNat)
          case atStart => exact ⟨lo, k, N, by omega, rfl, OA, N8, XA, J0, BA⟩
          case round =>
            clear J0 OA XA BA hk0 hk9'
            try clear bk
            try clear d0
            clear hkm
            obtain ⟨f, k, N', hk9', rfl, HO', HN, HX, HJ, HB'⟩ := hrel
            have hl := HJ.out.len
            obtain ⟨x0, x1⟩ := c2 HX.out
            have hft := HJ.out.lt
            have hsz : wo.heap.size < wr.heap.size := (Array.getElem?_eq_some_iff.1 HX.out).1
            by_cases hkm : k < m
            · obtain ⟨⟨f2, t2⟩, hp2⟩ : ∃ p, Nb[k]? = some p := ⟨Nb[k]'(by rw [← hm.out]; exact hkm), List.getElem?_eq_getElem _⟩
              cases hg2.out k _ hp2
              obtain ⟨g', e', hgg, b0, b1⟩ := FB.out k _ hp2
              cases e'
              have V : Hid (∀ w', Below w2.heap.size w2 w' → w'.cell? ⟨g2, k * 2, none⟩ = some (.int .i64 f2) ∧ w'.cell? ⟨g2, k * 2 + 1, none⟩ = some (.int .i64 t2)) := Lib.hid fun w' h => ⟨(h.cell (p := ⟨g2, _, none⟩) hgg).trans b0, (h.cell (p := ⟨g2, _, none⟩) hgg).trans b1⟩
              obtain ⟨j0, j1⟩ := V.out _ HB'.out
              have bk : (k : Int) < m := by omega
              clear b0 b1
              by_cases hb1 : f2 < t
              · have d1 : decide (f2 < t) = true := decide_eq_true hb1
                go_wp2_with fail
                go_quiet (fail)
                go_wp2_with fail
                obtain ⟨wq, hwq⟩ : ∃ wq, wq = wr.drewN nq := ⟨_, rfl⟩
                have Bq := Lib.hid (show Below w2.heap.size w2 wq by rw [hwq]; exact Buf.below_drewN HB'.out nq)
                have Oq := Lib.hid (show Spans wq w2.heap.size u5 N' by rw [hwq]; exact own_below HO'.out (Buf.below_drewN (Below.refl _ wr) nq))
                have Xq := Lib.hid (show wq.heap[wo.heap.size]? = some (.cells #[.int .i64 f, .int .i64 t] 49 (0, 0)) by rw [hwq]; exact HX.out)
                rw [← hwq]
                clear hwq x0 x1 j0 j1 HB' HO' HX
                have CD := Lib.hid (add_any f f2 (own_below Oq.out (Below.refl wq.heap.size wq).drew) Bq.out.size (by omega))
                have VD : wq.drew.cell? ⟨wo.heap.size, 0, none⟩ = some (.int .i64 f) ∧ wq.drew.cell? ⟨g2, k * 2, none⟩ = some (.int .i64 f2) := ⟨(c2 Xq.out).1, (V.out _ Bq.out).1⟩
                go_region_held3 (fun w' => w'.cell? ⟨wo.heap.size, 0, none⟩ = some (.int .i64 f) ∧ w'.cell? ⟨g2, k * 2, none⟩ = some (.int .i64 f2)) (first | (with_reducible exact VD) | (with_reducible exact ⟨q0, q1⟩))
                  ((first
                    | (go_at_call 56; (with_reducible refine CD.out.mono ?_); rintro e w4 ⟨⟨s', rfl, O4, hk4⟩, G4⟩; have X4 := Lib.hid ((G4.block wo.heap.size (Array.getElem?_eq_some_iff.1 Xq.out).1 (fun e => HN.out e.symm)).trans Xq.out); have B4 := Lib.hid (Bq.out.drew.grown G4 Bq.out.size (fun k hk => (Oq.out.lt k hk).1)); have q0 := (c2 X4.out).1; have q1 := (V.out _ B4.out).1)))
                have N4 : Hid (s'.ownBlock ≠ some wo.heap.size) := Lib.hid fun e => by
                  rcases hk4 _ e with h | h
                  · exact HN.out h
                  · have h2 := (Array.getElem?_eq_some_iff.1 Xq.out).1
                    have h3 : wq.drew.heap.size = wq.heap.size := rfl
                    omega
                have x0 := (c2 X4.out).1
                have j1 := (V.out _ B4.out).2
                have z0 := frozen_of_row w4 wo.heap.size 0 _ _ X4.out
                replace O4 := Lib.hid O4
                clear VD CD Oq Bq Xq G4 q0 q1 hk4
                go_wp2_with fail
                go_region
                obtain ⟨w5, hw5⟩ : ∃ w5, w5 = (w4.setCell ⟨wo.heap.size, 0, none⟩ (.int .i64 (max f t2))).drew := ⟨_, rfl⟩
                have B5 := Lib.hid (show Below w2.heap.size w2 w5 by rw [hw5]; exact (B4.out.setCell (p := ⟨wo.heap.size, 0, none⟩) g8.out _).drew)
                have O5 := Lib.hid (show Spans w5 w2.heap.size s' (addL N' (f, f2)) by rw [hw5]; exact own_set O4.out N4.out _)
                have X5 := Lib.hid (show w5.heap[wo.heap.size]? = some (.cells #[.int .i64 (max f t2), .int .i64 t] 49 (0, 0)) by rw [hw5]; exact box_set X4.out)
                rw [← hw5]
                clear hw5 O4 X4 B4 x0 j1 z0
                have hl5 : (addL N' (f, f2)).length ≤ 400 := by have := (addL_spec HJ.out.is.canon (s := (f, f2)) HJ.out.le).2.2.2; omega
                by_cases hov : t ≤ max f t2
                · have U := Lib.hid (HJ.out.over HA.out.canon HBb.out.canon hp.out hp2 hb1 hov)
                  have d2 : decide (t ≤ max f t2) = true := decide_eq_true hov
                  have CF := Lib.hid (add_any (max f t2) t O5.out B5.out.size (by omega))
                  obtain ⟨F, hF⟩ : ∃ F, F = max f t2 := ⟨_, rfl⟩
                  rw [← hF] at X5 d2 CF U ⊢
                  obtain ⟨x0, x1⟩ := c2 X5.out
                  replace hF := Lib.hid hF
                  clear hov
                  go_wp2_with fail
                  refine (CF.out).mono ?_
                  rintro e w9 ⟨⟨s9, rfl, O9, hk9⟩, G9⟩
                  have B9 := Lib.hid (B5.out.grown G9 B5.out.size (fun k hk => (O5.out.lt k hk).1))
                  go_wp2_with fail
                  go_roundw
                  case rel => exact ⟨i + 1, k, _, by omega, by omega, by go_num, rfl, Lib.hid O9, U, B9⟩
                  case measure => simp [intOf]; omega
                · have J' := Lib.hid (HJ.out.next HBb.out.canon hp2 (show max f t2 < t by omega))
                  have d2 : decide (t ≤ max f t2) = false := decide_eq_false hov
                  obtain ⟨F, hF⟩ : ∃ F, F = max f t2 := ⟨_, rfl⟩
                  have J2 : Hid (Mj Na Nb i (k + 1) lo F t (addL N' (f, f2))) := Lib.hid (by rw [hF]; exact J'.out)
                  rw [← hF] at X5 d2 ⊢
                  obtain ⟨x0, x1⟩ := c2 X5.out
                  replace hF := Lib.hid hF
                  clear hov J'
                  go_wp2_with fail
                  go_roundw
                  case rel => exact ⟨F, k + 1, _, by omega, by go_num, O5, N4, X5, J2, B5⟩
                  case measure => simp [intOf]; omega
              · have hb2 : t ≤ f2 := by omega
                have d1 : decide (f2 < t) = false := decide_eq_false hb1
                have U := Lib.hid (HJ.out.rest HA.out.canon HBb.out.canon hp.out (fun q hq => by rw [hp2] at hq; cases hq; exact hb2))
                have CF := Lib.hid fun q => add_any f t (own_below HO'.out (Buf.below_drewN (Below.refl _ wr) q)) HB'.out.size (by omega)
                have BF := Lib.hid HB'.out
                go_wp2_with fail
                go_quiet (fail)
                go_wp2_with fail
                refine (CF.out _).mono ?_
                rintro e w9 ⟨⟨s9, rfl, O9, hk9⟩, G9⟩
                have B9 := Lib.hid ((Lib.hid (Buf.below_drewN HB'.out _)).out.grown G9 (Lib.hid (Buf.below_drewN HB'.out _)).out.size (fun k hk => (HO'.out.lt k hk).1))
                go_wp2_with fail
                go_roundw
                case rel => exact ⟨i + 1, k, _, by omega, by omega, by go_num, rfl, Lib.hid O9, U, B9⟩
                case measure => simp [intOf]; omega
            · have d0 : decide (k < m) = false := decide_eq_false hkm
              have hkm' : m ≤ k := by omega
              have U := Lib.hid (HJ.out.rest HA.out.canon HBb.out.canon hp.out (fun q hq => by have := (List.getElem?_eq_some_iff.1 hq).1; rw [← hm.out] at this; omega))
              have CF := Lib.hid fun q => add_any f t (own_below HO'.out (Buf.below_drewN (Below.refl _ wr) q)) HB'.out.size (by omega)
              go_wp2_with fail
              go_quiet (fail)
              go_wp2_with fail
              refine (CF.out _).mono ?_
              rintro e w9 ⟨⟨s9, rfl, O9, hk9⟩, G9⟩
              have B9 := Lib.hid ((Lib.hid (Buf.below_drewN HB'.out _)).out.grown G9 (Lib.hid (Buf.below_drewN HB'.out _)).out.size (fun k hk => (HO'.out.lt k hk).1))
              go_wp2_with fail
              go_roundw
              case rel => exact ⟨i + 1, k, _, by omega, by omega, by go_num, rfl, Lib.hid O9, U, B9⟩
              case measure => simp [intOf]; omega
    · obtain rfl : i = n := by omega
      have U := Lib.hid (HU.out.stop (by rw [hn.out]; exact Nat.le_refl _))
      go_wp2_with fail
      go_ret
      refine ⟨⟨_, N, rfl, own_mono HO.out (Nat.le_trans hw1 hw2), U.out.congr fun x => by rw [HA.out.has, HBb.out.has], ?_⟩, W2.out.trans (HB.out.mono (Nat.le_trans hw1 hw2))⟩
      have := LA.out
      have := LB.out
      omega
end Spn
end Go.Proofs.Ytfmhfhggogjbkaa

/- Spans that the dice make, with bounds; lists and sets told by which numbers they have; the contracts of the functions of span in these words; sane. -/
set_option linter.unusedVariables false
set_option linter.unusedSimpArgs false
namespace Go.Proofs.Ytfmhfhggogjbkaa
open Go.RowKit Dice
namespace Spn
open Sp (cells2 cells2_snoc cells2_get Spans own_kept own_below own_mono own_shape own_left Geo_new)
set_option maxHeartbeats 4000000 in
theorem spans_any {W w : World} {g : Nat} {a : Option Addr} {len cap : Nat} {zs : List Int} (h : Di W w g a len cap zs) :
    Calls Try.prog 14 #[.pointer (some ⟨g, 0, none⟩)] w fun e w' => (∃ v l, e = .returned v ∧ Spans w' w.heap.size v l ∧ l.length ≤ 5 ∧ Inside l 0 64) ∧ Dice.Left W w w' g a len cap zs := by
  have H := Lib.hid h
  have L0 := Lib.hid (Dice.Left.refl h)
  have hlt := h.lt
  obtain ⟨i0, hi, hz0, hz1, hz2⟩ := info_get infoS
  clear h
  go_enter Try.func14, Try.ntmps14
  go_wp2_with fail
  refine (next_any 6 L0.out.di (by omega) (by omega)).mono ?_
  rintro e w1 ⟨⟨k0, rfl, m0, m1⟩, hl⟩
  obtain ⟨k, rfl⟩ := Int.eq_ofNat_of_zero_le m0
  replace L0 := Lib.hid hl
  clear hl
  go_wp2_with fail
  go_loopw [4, 3] (fun s4 s3 wr => ∃ (m : Nat) (l : LP), s4 = .int .i64 (m : Int) ∧ l.length + m ≤ 5 ∧ Hid (Inside l 0 64) ∧ Hid (Spans wr w.heap.size s3 l) ∧ Hid (Dice.Left W w wr g a len cap zs)) (fun s4 _ _ => (intOf s4).toNat)
  case atStart => exact ⟨k, [], rfl, by simp; omega, Lib.hid (by intro p hp; cases hp), Lib.hid (World.ownsRow_nil _ _ _ _), L0⟩
  case round =>
    clear L0
    obtain ⟨m, l, rfl, hm, BD, O, L⟩ := hrel
    by_cases hlt : 0 < m
    · have hlt' : (0 : Int) < m := by omega
      go_wp2_with fail
      refine (next_any 30 L.out.di (by omega) (by omega)).mono ?_
      rintro e w2 ⟨⟨f, rfl, f0, f1⟩, hl⟩
      replace O := Lib.hid (own_left O.out L.out.di (by decide) hl)
      replace L := Lib.hid (L.out.trans hl)
      clear hl
      go_wp2_with fail
      refine (next_any 8 L.out.di (by omega) (by omega)).mono ?_
      rintro e w3 ⟨⟨v, rfl, v0, v1⟩, hl⟩
      replace O := Lib.hid (own_left O.out L.out.di (by decide) hl)
      replace L := Lib.hid (L.out.trans hl)
      clear hl
      have BD' : Hid (Inside (l ++ [(f, f + v - 1)]) 0 64) := Lib.hid fun p hp => by
        rcases List.mem_append.1 hp with h | h
        · exact BD.out p h
        · simp at h; subst h; dsimp only; omega
      have one : Hid (∀ u ∈ [Value.int .i64 f, .int .i64 (f + v - 1)], u.oneCell' = true) := Lib.hid (by simp; exact ⟨rfl, rfl⟩)
      have hb3 := Lib.hid (Geo_new w3 (.cells #[.int .i64 f, .int .i64 (f + v - 1)] 49))
      have hown := Lib.hid (own_below O.out (new_block (.cells #[.int .i64 f, .int .i64 (f + v - 1)] 49)))
      have LA := Lib.hid (L.out.below (new_block (.cells #[.int .i64 f, .int .i64 (f + v - 1)] 49)))
      have hle : w.heap.size ≤ w3.heap.size := L.out.far.size
      go_wp2_with (at_builtin; refine wpList_append_lies _ rfl (.tmp 14) (.tmp 22) 23 rfl w.heap.size 49 i0 (.agg #[.int .i64 0, .int .i64 0]) 2 16 Try.underlying23 hi hz0 hz1 hz2 rfl (by decide) _ l.length (cells2 l) rfl hown.out ⟨w3.heap.size, 0, none⟩ 1 1 [.int .i64 f, .int .i64 (f + v - 1)] rfl rfl (World.news_of_block hb3.out) one.out (by decide) (by unfold maxLen; omega) (by omega) (by simp; omega) _ rfl ?_; intro gq cq w5 O2 G2 hg2 hl2)
      have O5 : Hid (Spans w5 w.heap.size (.slice (some ⟨gq, 0, none⟩) (l.length + 1) cq) (l ++ [(f, f + v - 1)])) := Lib.hid (by unfold Spans; rw [cells2_snoc]; simpa using O2)
      have L5 := Lib.hid (Dice.Left.past H.out LA.out ⟨G2.os, G2.tape, G2.output, G2.size, fun k hk => G2.block k (by simp; omega) (fun he => by have := (hown.out.lt k he.symm).1; omega)⟩)
      obtain ⟨m1, rfl⟩ : ∃ m1, m = m1 + 1 := ⟨m - 1, by omega⟩
      clear O2 G2 hg2 hl2 hown LA hb3 one
      go_roundw
      case rel => exact ⟨m1, l ++ [(f, f + v - 1)], by go_num, by simp; omega, BD', O5, L5⟩
      case measure => simp [intOf]
    · obtain rfl : m = 0 := by omega
      go_wp2
      go_ret
      exact ⟨⟨_, l, rfl, O.out, by omega, BD.out⟩, L.out⟩
theorem bd_of_inside {L : LP} (h : Inside L 0 64) {x : Int} (hx : hasB L x = true) : 0 ≤ x ∧ x < 64 := by
  obtain ⟨p, hp, p1, p2⟩ := hasB_iff.1 hx
  have := h p hp
  omega
theorem inside_of_bd {N : LP} (h : Canon N) (hx : ∀ x, hasB N x = true → 0 ≤ x ∧ x < 64) : Inside N 0 64 := by
  intro p hp
  have h1 := h.one p hp
  have a := hx p.1 (hasB_iff.2 ⟨p, hp, by omega, by omega⟩)
  have b := hx (p.2 - 1) (hasB_iff.2 ⟨p, hp, by omega, by omega⟩)
  omega
/-- A list that has the numbers f. -/
def Rv (w : World) (v : Value) (f : Int → Bool) (k : Nat) : Prop := ∃ L, Its w v L ∧ (∀ x, hasB L x = f x) ∧ L.length ≤ k ∧ Inside L 0 64
/-- A set that has the numbers f. -/
def Sv (w : World) (v : Value) (f : Int → Bool) (k : Nat) : Prop := ∃ N, Its w v N ∧ Is N f ∧ N.length ≤ k ∧ Inside N 0 64
theorem Rv.keep {w w' : World} {v : Value} {f : Int → Bool} {k : Nat} (h : Rv w v f k) (hb : Below w.heap.size w w') : Rv w' v f k := by
  obtain ⟨L, h1, h2⟩ := h
  exact ⟨L, h1.keep hb, h2⟩
theorem Sv.keep {w w' : World} {v : Value} {f : Int → Bool} {k : Nat} (h : Sv w v f k) (hb : Below w.heap.size w w') : Sv w' v f k := by
  obtain ⟨L, h1, h2⟩ := h
  exact ⟨L, h1.keep hb, h2⟩
theorem Sv.rv {w : World} {v : Value} {f : Int → Bool} {k : Nat} (h : Sv w v f k) : Rv w v f k := by
  obtain ⟨N, h1, h2, h3, h4⟩ := h
  exact ⟨N, h1, h2.has, h3, h4⟩
theorem Rv.bd {w : World} {v : Value} {f : Int → Bool} {k : Nat} (h : Rv w v f k) {x : Int} (hx : f x = true) : 0 ≤ x ∧ x < 64 := by
  obtain ⟨L, h1, h2, h3, h4⟩ := h
  exact bd_of_inside h4 (by rw [h2]; exact hx)
theorem Rv.of {w : World} {B : Nat} {v : Value} {L : LP} (h : Spans w B v L) (hl : L.length ≤ 5) (hI : Inside L 0 64) : Rv w v (hasB L) 5 := ⟨L, its_of_own h, fun _ => rfl, hl, hI⟩
/-- What a function that makes a set returns. -/
def Made (w : World) (f : Int → Bool) (k : Nat) (e : Ending) (w' : World) : Prop := (∃ r, e = .returned r ∧ Sv w' r f k) ∧ Below w.heap.size w w'
theorem made {w w' : World} {e : Ending} {f : Int → Bool} {k : Nat} {B : Nat} (h : (∃ r N, e = .returned r ∧ Spans w' B r N ∧ Is N f ∧ N.length ≤ k) ∧ Below w.heap.size w w') (hf : ∀ x, f x = true → 0 ≤ x ∧ x < 64) : Made w f k e w' := by
  obtain ⟨⟨r, N, h1, h2, h3, h4⟩, h5⟩ := h
  exact ⟨⟨r, h1, N, its_of_own h2, h3, h4, inside_of_bd h3.canon fun x hx => hf x (by rw [← h3.has]; exact hx)⟩, h5⟩
theorem normal_sv {w : World} {v : Value} {f : Int → Bool} {k : Nat} (h : Rv w v f k) (hk : k ≤ 100) : Calls Try.prog 22 #[v] w (Made w f k) := by
  have hb := h
  obtain ⟨L, h1, h2, h3, h4⟩ := h
  refine (normal_any h1 (by omega)).mono fun e w' h => made (B := w.heap.size) ?_ fun x hx => hb.bd hx
  obtain ⟨⟨r, N, a1, a2, a3, a4⟩, a5⟩ := h
  exact ⟨⟨r, N, a1, a2, a3.congr h2, by omega⟩, a5⟩
theorem union_sv {w : World} {va vb : Value} {f g : Int → Bool} {k j : Nat} (ha : Rv w va f k) (hb : Rv w vb g j) (hk : k ≤ 100) (hj : j ≤ 100) : Calls Try.prog 16 #[va, vb] w (Made w (fun x => f x || g x) (k + j)) := by
  have hfa := ha
  have hfb := hb
  obtain ⟨A, h1, h2, h3, h4⟩ := ha
  obtain ⟨B, b1, b2, b3, b4⟩ := hb
  refine (union_any h1 b1 (by omega) (by omega)).mono fun e w' h => made (B := w.heap.size) ?_ fun x hx => ?_
  · obtain ⟨⟨r, N, a1, a2, a3, a4⟩, a5⟩ := h
    exact ⟨⟨r, N, a1, a2, a3.congr fun x => by rw [h2, b2], by omega⟩, a5⟩
  · rcases Bool.or_eq_true_iff.1 hx with hx | hx
    · exact hfa.bd hx
    · exact hfb.bd hx
theorem meet_sv {w : World} {va vb : Value} {f g : Int → Bool} {k j : Nat} (ha : Rv w va f k) (hb : Rv w vb g j) (hk : k ≤ 100) (hj : j ≤ 100) : Calls Try.prog 18 #[va, vb] w (Made w (fun x => f x && g x) (k + j)) := by
  have hfa := ha
  obtain ⟨A, h1, h2, h3, h4⟩ := ha
  obtain ⟨B, b1, b2, b3, b4⟩ := hb
  refine (meet_any h1 b1 (by omega) (by omega)).mono fun e w' h => made (B := w.heap.size) ?_ fun x hx => hfa.bd (Bool.and_eq_true_iff.1 hx).1
  obtain ⟨⟨r, N, a1, a2, a3, a4⟩, a5⟩ := h
  exact ⟨⟨r, N, a1, a2, a3.congr fun x => by rw [h2, b2], by omega⟩, a5⟩
theorem minus_sv {w : World} {va vb : Value} {f g : Int → Bool} {k j : Nat} (ha : Rv w va f k) (hb : Rv w vb g j) (hk : k ≤ 100) (hj : j ≤ 100) : Calls Try.prog 20 #[va, vb] w (Made w (fun x => f x && !g x) (j + 2 * k)) := by
  have hfa := ha
  obtain ⟨A, h1, h2, h3, h4⟩ := ha
  obtain ⟨B, b1, b2, b3, b4⟩ := hb
  refine (minus_any h1 b1 (by omega) (by omega)).mono fun e w' h => made (B := w.heap.size) ?_ fun x hx => hfa.bd (Bool.and_eq_true_iff.1 hx).1
  obtain ⟨⟨r, N, a1, a2, a3, a4⟩, a5⟩ := h
  exact ⟨⟨r, N, a1, a2, a3.congr fun x => by rw [h2, b2], by omega⟩, a5⟩
theorem cut_sv {w : World} {v : Value} {f : Int → Bool} {k : Nat} (x y : Int) (h : Rv w v f k) (hk : k ≤ 100) : Calls Try.prog 29 #[v, .int .i64 x, .int .i64 y] w (Made w (fun z => f z && decide (x ≤ z ∧ z < y)) (k + 1)) := by
  have hb := h
  obtain ⟨L, h1, h2, h3, h4⟩ := h
  refine (cut_any x y h1 (by omega)).mono fun e w' h => made (B := w.heap.size) ?_ fun x hx => hb.bd (Bool.and_eq_true_iff.1 hx).1
  obtain ⟨⟨r, N, a1, a2, a3, a4⟩, a5⟩ := h
  exact ⟨⟨r, N, a1, a2, a3.congr fun x => by rw [h2], by omega⟩, a5⟩
theorem same_sv {w : World} {va vb : Value} {f g : Int → Bool} {k j : Nat} (ha : Sv w va f k) (hb : Sv w vb g j) (he : ∀ x, f x = g x) (hk : k ≤ 1000) : Calls Try.prog 15 #[va, vb] w fun e w' => e = .returned (.bool true) ∧ Below w.heap.size w w' := by
  obtain ⟨A, h1, h2, h3, h4⟩ := ha
  obtain ⟨B, b1, b2, b3, b4⟩ := hb
  obtain rfl := h2.unique (b2.congr fun x => (he x).symm)
  exact same_yes h1 b1 (by omega)
theorem length_sv {w : World} {v : Value} {f : Int → Bool} {k : Nat} (h : Rv w v f k) (hk : k ≤ 100) : Calls Try.prog 35 #[v] w fun e w' => e = .returned (.tuple #[.int .i64 (cnt f 0 64), .bool true]) ∧ Below w.heap.size w w' := by
  have hb := h
  obtain ⟨L, h1, h2, h3, h4⟩ := h
  refine (length_any h1 (fun p hp => by have := h4 p hp; omega) (by omega)).mono ?_
  rintro e w' ⟨⟨N, hN, rfl⟩, b⟩
  refine ⟨?_, b⟩
  have hI : Inside N 0 (0 + (64 : Nat)) := inside_of_bd hN.canon fun x hx => by rw [hN.has] at hx; exact bd_of_inside h4 hx
  rw [lenL_cnt hN.canon hI, cnt_congr 0 hN.has, cnt_congr 0 h2]
theorem has_sv {w : World} {v : Value} {f : Int → Bool} {k : Nat} (x : Int) (h : Rv w v f k) (hk : k ≤ 100) : Calls Try.prog 27 #[v, .int .i64 x] w fun e w' => e = .returned (.bool (f x)) ∧ Below w.heap.size w w' := by
  obtain ⟨L, h1, h2, h3, h4⟩ := h
  rw [← h2]
  exact has_any x h1 (by omega)
theorem refhas_sv {w : World} {v : Value} {f : Int → Bool} {k : Nat} (x : Int) (h : Rv w v f k) (hk : k ≤ 100) : Calls Try.prog 28 #[v, .int .i64 x] w fun e w' => e = .returned (.bool (f x)) ∧ Below w.heap.size w w' := by
  obtain ⟨L, h1, h2, h3, h4⟩ := h
  rw [← h2]
  exact refhas_any x h1 (by omega)
theorem valid_sv {w : World} {v : Value} {f : Int → Bool} {k : Nat} (h : Sv w v f k) (hk : k ≤ 100) : Calls Try.prog 24 #[v] w fun e w' => e = .returned (.bool true) ∧ Below w.heap.size w w' := by
  obtain ⟨N, h1, h2, h3, h4⟩ := h
  exact valid_any true (by simp [h2.canon]) h1 (by omega)
theorem Sv.none {w : World} {v : Value} {f : Int → Bool} {k : Nat} (h : Sv w v f k) (hf : ∀ x, f x = false) : ∃ ad c, v = .slice ad 0 c := by
  obtain ⟨N, h1, h2, h3, h4⟩ := h
  obtain rfl : N = [] := h2.unique (Is.nil hf)
  obtain ⟨ad, c, h, _⟩ := its_form h1
  exact ⟨ad, c, h⟩
end Spn
end Go.Proofs.Ytfmhfhggogjbkaa
