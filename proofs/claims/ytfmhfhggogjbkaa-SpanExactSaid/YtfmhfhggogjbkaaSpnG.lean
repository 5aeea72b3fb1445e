/- span.Length, First and Shift. -/
import Derived.Test.YtfmhfhggogjbkaaSpnF
set_option linter.unusedVariables false
set_option linter.unusedSimpArgs false
namespace Go.Proofs.Ytfmhfhggogjbkaa
open Go.RowKit Dice
namespace Spn
open Sp (cells2 cells2_snoc cells2_get Spans own_kept own_below own_mono own_shape)
theorem Is.inside {N L : LP} (h : Is N (hasB L)) {lo hi : Int} (hL : Inside L lo hi) : Inside N lo hi := inside_of_has h.canon hL fun x hx => by rw [← h.has]; exact hx
theorem step_wraps {N : LP} (hc : Canon N) (hI : Inside N (-1152921504606846976) 1152921504606846976) {k : Nat} {f t : Int} (hp : N[k]? = some (f, t)) :
    IntKind.i64.wrap (t - f) = t - f ∧ IntKind.i64.wrap (lenL (N.take k) + (t - f)) = lenL (N.take (k + 1)) := by
  have h1 := hI _ (List.mem_of_getElem? hp)
  have h2 := hc.at hp
  have h3 := lenL_bounds hc (by decide) hI k
  have h4 := lenL_bounds hc (by decide) hI (k + 1)
  have h5 := lenL_succ N k _ hp
  dsimp only at h1 h2 h5
  exact ⟨IntWalk.i64_in _ (by omega), by rw [IntWalk.i64_in _ (by omega)]; omega⟩
set_option maxHeartbeats 2000000 in
theorem length_any {w : World} {v : Value} {L : LP} (h : Its w v L) (hI : Inside L (-1152921504606846976) 1152921504606846976) (h9 : L.length ≤ 500) :
    Calls Try.prog 35 #[v] w fun e w' => (∃ N, Is N (hasB L) ∧ e = .returned (.tuple #[.int .i64 (lenL N), .bool true])) ∧ Below w.heap.size w w' := by
  have C1 := Lib.hid (normal_any h h9)
  replace hI := Lib.hid hI
  clear h
  go_enter Try.func35, Try.ntmps35
  go_wp2_with fail
  refine C1.out.mono ?_
  rintro e w1 ⟨⟨r, N, rfl, O, I, hl⟩, b1⟩
  have HI := Lib.hid (I.inside hI.out)
  have HC := Lib.hid I.canon
  have C2 := Lib.hid (isNear_yes (its_of_own O) HI.out (by omega))
  obtain ⟨ad, c, rfl, hc, hf⟩ := its_form (its_of_own O)
  obtain ⟨n, hn⟩ : ∃ n, n = N.length := ⟨_, rfl⟩
  rw [← hn] at hc hl C2 ⊢
  replace hn := Lib.hid hn
  have hn9 : n ≤ 500 := by omega
  have F := Lib.hid hf
  have B1 := Lib.hid b1
  replace I := Lib.hid I
  clear O hf b1 C1 hl h9
  go_wp2_with fail
  refine C2.out.mono ?_
  rintro e w2 ⟨rfl, b2⟩
  have F2 : Hid (∀ (k : Nat) (p : Int × Int), N[k]? = some p → ∃ g, ad = some ⟨g, 0, none⟩ ∧ g < w2.heap.size ∧ w2.cell? ⟨g, k * 2, none⟩ = some (.int .i64 p.1) ∧ w2.cell? ⟨g, k * 2 + 1, none⟩ = some (.int .i64 p.2)) := Lib.hid fun k p hp => by
    obtain ⟨g, e, h1, h2, h3⟩ := F.out k p hp
    exact ⟨g, e, Nat.lt_of_lt_of_le h1 b2.size, (b2.cell (p := ⟨g, _, none⟩) h1).trans h2, (b2.cell (p := ⟨g, _, none⟩) h1).trans h3⟩
  have B2 := Lib.hid (Buf.then_ B1.out b2)
  have hw2 := B2.out.size
  have A0 := Lib.hid (Below.refl w2.heap.size w2)
  clear F B1 b2 C2
  go_wp2_with fail
  go_loopw [15, 5] (fun i s wr => ∃ (k : Nat) (u : Int), k ≤ n ∧ i = .int .i64 k ∧ s = .int .i64 u ∧ Hid (u = lenL (N.take k)) ∧ Hid (Below w2.heap.size w2 wr)) (fun i _ _ => n - (intOf i).toNat)
  case atStart => exact ⟨0, 0, Nat.zero_le _, rfl, rfl, Lib.hid rfl, A0⟩
  case round =>
    clear A0
    obtain ⟨k, u, hk, rfl, rfl, HU, HB⟩ := hrel
    by_cases hlt : k < n
    · obtain ⟨⟨f, t⟩, hp⟩ : ∃ p, N[k]? = some p := ⟨N[k]'(by rw [← hn.out]; exact hlt), List.getElem?_eq_getElem _⟩
      obtain ⟨g, rfl, hg, q0, q1⟩ := F2.out k _ hp
      have k0 := (HB.out.cell (p := ⟨g, _, none⟩) hg).trans q0
      have k1 := (HB.out.cell (p := ⟨g, _, none⟩) hg).trans q1
      dsimp only at k0 k1
      obtain ⟨s1, s2⟩ := step_wraps HC.out HI.out hp
      rw [← HU.out] at s2
      obtain ⟨u2, hu2⟩ : ∃ u2, u2 = lenL (N.take (k + 1)) := ⟨_, rfl⟩
      obtain ⟨d, hd⟩ : ∃ d, d = t - f := ⟨_, rfl⟩
      rw [← hu2] at s2
      rw [← hd] at s1 s2
      replace hu2 := Lib.hid hu2
      have s1' : IntKind.i64.wrap (t - f) = d := by rw [← hd]; exact s1
      have B3 := Lib.hid (HB.out.alloc HB.out.size (.cells #[.int .i64 f, .int .i64 t] 49))
      replace hp := Lib.hid hp
      replace hd := Lib.hid hd
      clear q0 q1 HU s1
      go_wp2_with fail
      go_roundw
      case rel => exact ⟨k + 1, u2, by omega, by go_num, rfl, hu2, B3⟩
      case measure => simp [intOf]; omega
    · obtain rfl : k = n := by omega
      have e : Hid (u = lenL N) := Lib.hid (by rw [HU.out, take_all N k (by rw [hn.out]; exact Nat.le_refl _)])
      go_wp2_with fail
      go_ret2
      exact ⟨⟨N, I.out, by rw [e.out]; rfl⟩, B2.out.trans (HB.out.mono hw2)⟩
/-- A cell of an owned row is stored. -/
theorem store_from {w : World} {B g c n : Nat} {a b : LP} {f t : Int} (x : Int) (O : w.ownsRow B 49 2 (.slice (some ⟨g, 0, none⟩) n c) n (cells2 (a ++ (f, t) :: b))) (k : Nat) (hk : k = a.length) :
    (w.setCell ⟨g, k * 2, none⟩ (.int .i64 x)).ownsRow B 49 2 (.slice (some ⟨g, 0, none⟩) n c) n (cells2 (a ++ (x, t) :: b)) := by
  have := (World.ownsRow.stored O (k * 2) (.int .i64 x)).1
  have e : (cells2 (a ++ (f, t) :: b)).set (k * 2) (.int .i64 x) = cells2 (a ++ (x, t) :: b) := by
    subst hk
    rw [cells2_append, cells2_append, List.set_append_right _ _ (by rw [cells2_length]; omega), cells2_length, Nat.sub_self]
    simp [cells2]
  rwa [e] at this
theorem store_to {w : World} {B g c n : Nat} {a b : LP} {f t : Int} (x : Int) (O : w.ownsRow B 49 2 (.slice (some ⟨g, 0, none⟩) n c) n (cells2 (a ++ (f, t) :: b))) (k : Nat) (hk : k = a.length) :
    (w.setCell ⟨g, k * 2 + 1, none⟩ (.int .i64 x)).ownsRow B 49 2 (.slice (some ⟨g, 0, none⟩) n c) n (cells2 (a ++ (f, x) :: b)) := by
  have := (World.ownsRow.stored O (k * 2 + 1) (.int .i64 x)).1
  have e : (cells2 (a ++ (f, t) :: b)).set (k * 2 + 1) (.int .i64 x) = cells2 (a ++ (f, x) :: b) := by
    subst hk
    rw [cells2_append, cells2_append, List.set_append_right _ _ (by rw [cells2_length]; omega), cells2_length]
    have : a.length * 2 + 1 - a.length * 2 = 1 := by omega
    rw [this]
    simp [cells2]
  rwa [e] at this
theorem cells_at {w : World} {B g c n : Nat} {a b : LP} {f t : Int} (O : w.ownsRow B 49 2 (.slice (some ⟨g, 0, none⟩) n c) n (cells2 (a ++ (f, t) :: b))) (k : Nat) (hk : k = a.length) (hn : k < n) :
    w.cell? ⟨g, k * 2, none⟩ = some (.int .i64 f) ∧ w.cell? ⟨g, k * 2 + 1, none⟩ = some (.int .i64 t) := by
  obtain ⟨x, y⟩ := cells2_get (a ++ (f, t) :: b) k (f, t) (by rw [hk]; simp)
  exact ⟨(O.cellAt _ (by omega)).trans x, (O.cellAt _ (by omega)).trans y⟩
/-- The first k of a list are moved. -/
def partL (N : LP) (d : Int) (k : Nat) : LP := moveL (N.take k) d ++ N.drop k
theorem partL_at {N : LP} {d : Int} {k : Nat} {f t : Int} (h : N[k]? = some (f, t)) : partL N d k = moveL (N.take k) d ++ (f, t) :: N.drop (k + 1) ∧ partL N d (k + 1) = moveL (N.take k) d ++ (f + d, t + d) :: N.drop (k + 1) ∧ k = (moveL (N.take k) d).length := by
  obtain ⟨hk, e⟩ := List.getElem?_eq_some_iff.1 h
  refine ⟨?_, ?_, by simp [moveL]; omega⟩
  · unfold partL
    rw [List.drop_eq_getElem_cons hk, e]
  · unfold partL
    rw [List.take_add_one, h]
    simp [moveL]
set_option maxHeartbeats 4000000 in
theorem shift_any {w : World} {v : Value} {L : LP} (d : Int) (h : Its w v L) (hI : Inside L (-1152921504606846976) 1152921504606846976) (h9 : L.length ≤ 500) (d0 : -1152921504606846976 ≤ d) (d1 : d ≤ 1152921504606846976) :
    Calls Try.prog 33 #[v, .int .i64 d] w fun e w' => (∃ r N, Is N (hasB L) ∧ N.length ≤ L.length ∧ e = .returned (.tuple #[r, .int .i64 0]) ∧ Spans w' w.heap.size r (moveL N d)) ∧ Below w.heap.size w w' := by
  have C1 := Lib.hid (normal_any h h9)
  replace hI := Lib.hid hI
  clear h
  go_enter Try.func33, Try.ntmps33
  go_wp2_with fail
  refine C1.out.mono ?_
  rintro e w1 ⟨⟨r, N, rfl, O, I, hl⟩, b1⟩
  have HI := Lib.hid (I.inside hI.out)
  have HC := Lib.hid I.canon
  have C2 := Lib.hid (isNear_yes (its_of_own O) HI.out (by omega))
  have HL := Lib.hid hl
  have hn9 : N.length ≤ 500 := by omega
  have B1 := Lib.hid b1
  have hsh := own_shape O
  have HO := Lib.hid O
  replace I := Lib.hid I
  clear O b1 C1 hl
  rcases hsh with ⟨rfl, hn⟩ | ⟨g, c, rfl, hc, hg⟩
  · obtain rfl : N = [] := List.length_eq_zero_iff.1 hn
    go_wp2_with fail
    refine C2.out.mono ?_
    rintro e w2 ⟨rfl, b2⟩
    have B2 := Lib.hid (Buf.then_ B1.out b2)
    have O2 : Hid (Spans w2 w.heap.size (.slice none 0 0) (moveL [] d)) := Lib.hid (World.ownsRow_nil _ _ _ _)
    go_wp2_with fail
    go_loop [23, 7] (fun i _ => i = .int .i64 0) (fun _ _ => 0)
    case atStart => rfl
    case round =>
      subst hrel
      go_wp2_with fail
      go_ret2
      exact ⟨⟨_, [], I.out, HL.out, rfl, O2.out⟩, B2.out⟩
  · obtain ⟨n, hn⟩ : ∃ n, n = N.length := ⟨_, rfl⟩
    have hgB := (HO.out.lt g rfl).1
    rw [← hn] at hc hn9 HO C2 ⊢
    replace hn := Lib.hid hn
    go_wp2_with fail
    refine C2.out.mono ?_
    rintro e w2 ⟨rfl, b2⟩
    have B2 := Lib.hid (Buf.then_ B1.out b2)
    have O2 : Hid (w2.ownsRow w.heap.size 49 2 (.slice (some ⟨g, 0, none⟩) n c) n (cells2 (partL N d 0))) := Lib.hid (own_below (by have := HO.out; unfold Spans at this; rw [← hn.out] at this; simpa [partL, moveL] using this) b2)
    clear HO b2 B1 C2
    go_wp2_with fail
    go_loopw [23, 7] (fun i _ wr => ∃ k : Nat, k ≤ n ∧ i = .int .i64 k ∧ Hid (wr.ownsRow w.heap.size 49 2 (.slice (some ⟨g, 0, none⟩) n c) n (cells2 (partL N d k))) ∧ Hid (Below w.heap.size w wr)) (fun i _ _ => n - (intOf i).toNat)
    case atStart => exact ⟨0, Nat.zero_le _, rfl, O2, B2⟩
    case round =>
      clear O2 B2
      obtain ⟨k, hk, rfl, HO, HB⟩ := hrel
      by_cases hlt : k < n
      · obtain ⟨⟨f, t⟩, hp⟩ : ∃ p, N[k]? = some p := ⟨N[k]'(by rw [← hn.out]; exact hlt), List.getElem?_eq_getElem _⟩
        obtain ⟨p1, p2, p3⟩ := partL_at (d := d) hp
        have i1 := HI.out _ (List.mem_of_getElem? hp)
        have i2 := HC.out.at hp
        dsimp only at i1 i2
        have o1 := HO.out
        rw [p1] at o1
        obtain ⟨k0, k1⟩ := cells_at o1 k p3 hlt
        have o2 := store_from (f + d) o1 k p3
        have o3 := store_to (t + d) o2 k p3
        rw [← p2] at o3
        obtain ⟨j0, j1⟩ := cells_at o2 k p3 hlt
        have z1 := World.ownsRow.frozenAt o1 (k * 2)
        have z2 := World.ownsRow.frozenAt o2 (k * 2 + 1)
        have w1 : IntKind.i64.wrap (f + d) = f + d := IntWalk.i64_in _ (by omega)
        have w2 : IntKind.i64.wrap (t + d) = t + d := IntWalk.i64_in _ (by omega)
        have O3 := Lib.hid o3
        have B3 := Lib.hid ((HB.out.setCell (p := ⟨g, k * 2, none⟩) hgB (.int .i64 (f + d))).setCell (p := ⟨g, k * 2 + 1, none⟩) hgB (.int .i64 (t + d)))
        have b1 : (k : Int) < n := by omega
        replace hp := Lib.hid hp
        clear o1 o2 o3 p1 p2 p3 HO HB
        go_wp2_with fail
        exact ⟨⟨k + 1, by omega, by go_num, O3, B3⟩, by simp [intOf]; omega⟩
      · obtain rfl : k = n := by omega
        have e : Hid (partL N d k = moveL N d) := Lib.hid (by unfold partL; rw [take_all N k (by rw [hn.out]; exact Nat.le_refl _), List.drop_of_length_le (by rw [hn.out]; exact Nat.le_refl _)]; simp)
        have O4 : Hid (Spans wr w.heap.size (.slice (some ⟨g, 0, none⟩) k c) (moveL N d)) := Lib.hid (by have := HO.out; rw [e.out] at this; unfold Spans; rw [moveL_length, ← hn.out]; exact this)
        go_wp2_with fail
        go_ret2
        exact ⟨⟨_, N, I.out, HL.out, rfl, O4.out⟩, HB.out⟩
/-- What First has still to do. -/
theorem firstL_step {N : LP} {k : Nat} {f t : Int} (h : N[k]? = some (f, t)) (n : Int) : firstL (N.drop k) n = if n < 1 then [] else if n < t - f then [(f, f + n)] else (f, t) :: firstL (N.drop (k + 1)) (n - (t - f)) := by
  obtain ⟨hk, e⟩ := List.getElem?_eq_some_iff.1 h
  rw [List.drop_eq_getElem_cons hk, e]
  rfl
set_option maxRecDepth 100000 in
set_option maxHeartbeats 4000000 in
theorem first_any {w : World} {v : Value} {L : LP} (n0 : Int) (h : Its w v L) (hI : Inside L 0 1152921504606846976) (h9 : L.length ≤ 500) (n00 : 0 ≤ n0) (n09 : n0 ≤ 1152921504606846976) :
    Calls Try.prog 31 #[v, .int .i64 n0] w fun e w' => (∃ r N, Is N (hasB L) ∧ N.length ≤ L.length ∧ e = .returned r ∧ Spans w' w.heap.size r (firstL N n0)) ∧ Below w.heap.size w w' := by
  obtain ⟨i0, hi, hz0, hz1, hz2⟩ := info_get infoS
  have C1 := Lib.hid (normal_any h h9)
  replace hI := Lib.hid hI
  clear h
  go_enter Try.func31, Try.ntmps31
  go_wp2_with fail
  refine C1.out.mono ?_
  rintro e w1 ⟨⟨r, N, rfl, O, I, hl⟩, b1⟩
  have HI := Lib.hid (I.inside hI.out)
  have HC := Lib.hid I.canon
  have HL := Lib.hid hl
  obtain ⟨ad, c, rfl, hc, hf⟩ := its_form (its_of_own O)
  obtain ⟨m, hn⟩ : ∃ m, m = N.length := ⟨_, rfl⟩
  rw [← hn] at hc hl ⊢
  replace hn := Lib.hid hn
  have hn9 : m ≤ 500 := by omega
  have F := Lib.hid hf
  have B1 := Lib.hid b1
  have hw1 := b1.size
  have A0 := Lib.hid (Below.refl w1.heap.size w1)
  have Z0 : Hid (Spans w1 w1.heap.size (.slice none 0 0) []) := Lib.hid (World.ownsRow_nil _ _ _ _)
  replace I := Lib.hid I
  clear O hf b1 C1 hl h9
  go_wp2_with fail
  go_loopw [12, 5, 1] (fun i s x wr => ∃ (k : Nat) (u : Int) (S : LP), k ≤ m ∧ i = .int .i64 k ∧ x = .int .i64 u ∧ 0 ≤ u ∧ u ≤ 1152921504606846976 ∧ Hid (S.length ≤ k) ∧ Hid (S ++ firstL (N.drop k) u = firstL N n0) ∧ Hid (Spans wr w1.heap.size s S) ∧ Hid (Below w1.heap.size w1 wr)) (fun i _ _ _ => m - (intOf i).toNat)
  case atStart => exact ⟨0, n0, [], Nat.zero_le _, rfl, rfl, n00, n09, Lib.hid (Nat.le_refl _), Lib.hid rfl, Z0, A0⟩
  case round =>
    clear A0 Z0
    obtain ⟨k, u, S, hk, rfl, rfl, u0, u9, HS, HF, HO, HB⟩ := hrel
    by_cases hlt : k < m
    · obtain ⟨⟨f, t⟩, hp⟩ : ∃ p, N[k]? = some p := ⟨N[k]'(by rw [← hn.out]; exact hlt), List.getElem?_eq_getElem _⟩
      have hstep := firstL_step hp u
      obtain ⟨g, rfl, hg, q0, q1⟩ := F.out k _ hp
      have k0 := (HB.out.cell (p := ⟨g, _, none⟩) hg).trans q0
      have k1 := (HB.out.cell (p := ⟨g, _, none⟩) hg).trans q1
      have i1 := HI.out _ (List.mem_of_getElem? hp)
      have i2 := HC.out.at hp
      dsimp only at k0 k1 i1 i2
      have hs9 := HS.out
      have B3 := Lib.hid (HB.out.alloc HB.out.size (.cells #[.int .i64 f, .int .i64 t] 49))
      replace hp := Lib.hid hp
      clear q0 q1
      by_cases hu : u < 1
      · have e : Hid (firstL N n0 = S) := Lib.hid (by rw [← HF.out, hstep, if_pos hu]; simp)
        clear HF hstep
        have d1 : decide (u < 1) = true := decide_eq_true hu
        have O3 := Lib.hid (own_below HO.out (new_block (.cells #[.int .i64 f, .int .i64 t] 49)))
        go_wp2_with fail
        go_ret
        exact ⟨⟨_, N, I.out, HL.out, rfl, by rw [e.out]; exact own_mono O3.out hw1⟩, B1.out.trans (B3.out.mono hw1)⟩
      · have d1 : decide (u < 1) = false := decide_eq_false hu
        have v1 : IntKind.u64.wrap t = t := by simp [IntKind.wrap, IntKind.bits, IntKind.signed]; omega
        have v2 : IntKind.u64.wrap f = f := by simp [IntKind.wrap, IntKind.bits, IntKind.signed]; omega
        have v3 : IntKind.u64.wrap (t - f) = t - f := by simp [IntKind.wrap, IntKind.bits, IntKind.signed]; omega
        have v4 : IntKind.u64.wrap u = u := by simp [IntKind.wrap, IntKind.bits, IntKind.signed]; omega
        by_cases hd : u < t - f
        · have e : Hid (firstL N n0 = S ++ [(f, f + u)]) := Lib.hid (by rw [← HF.out, hstep, if_neg hu, if_pos hd])
          clear HF hstep
          have d2 : decide (u < t - f) = true := decide_eq_true hd
          have v5 : IntKind.i64.wrap (f + u) = f + u := IntWalk.i64_in _ (by omega)
          have one : Hid (∀ x ∈ [Value.int .i64 f, .int .i64 (f + u)], x.oneCell' = true) := Lib.hid (by simp; exact ⟨rfl, rfl⟩)
          have O3 := Lib.hid (own_below (own_below HO.out (new_block (.cells #[.int .i64 f, .int .i64 t] 49))) (new_block (.cells #[.int .i64 f, .int .i64 (f + u)] 49)))
          have hb3 : Hid (((wr.alloc (.cells #[.int .i64 f, .int .i64 t] 49)).alloc (.cells #[.int .i64 f, .int .i64 (f + u)] 49)).heap[wr.heap.size + 1]? = some (.cells #[.int .i64 f, .int .i64 (f + u)] 49 (0, 0))) := Lib.hid (by simpa using heap_alloc_new (wr.alloc (.cells #[.int .i64 f, .int .i64 t] 49)) (.cells #[.int .i64 f, .int .i64 (f + u)] 49))
          have B4 := Lib.hid (B3.out.alloc B3.out.size (.cells #[.int .i64 f, .int .i64 (f + u)] 49))
          have hB3 := Lib.hid B4.out.size
          go_wp2_with (at_builtin; refine wpList_append_lies _ rfl (.tmp 29) (.tmp 37) 23 rfl w1.heap.size 49 i0 (.agg #[.int .i64 0, .int .i64 0]) 2 16 Try.underlying23 hi hz0 hz1 hz2 rfl (by decide) _ S.length (cells2 S) rfl O3.out ⟨wr.heap.size + 1, 0, none⟩ 1 1 [.int .i64 f, .int .i64 (f + u)] rfl rfl (World.news_of_block hb3.out) one.out (by decide) (by unfold maxLen; omega) (by omega) hB3.out _ rfl ?_; intro gq cq w5 O2 G2 hg2 hl2)
          have O5 : Hid (Spans w5 w.heap.size (.slice (some ⟨gq, 0, none⟩) (S.length + 1) cq) (firstL N n0)) := Lib.hid (by rw [e.out]; refine own_mono (B := w1.heap.size) ?_ hw1; rw [cells2_snoc]; simpa using O2)
          have B5 := Lib.hid (B1.out.trans ((B4.out.grown G2 hB3.out (fun k hk => (O3.out.lt k hk).1)).mono hw1))
          clear O2 G2 hg2 hl2
          go_ret
          exact ⟨⟨_, N, I.out, HL.out, rfl, O5.out⟩, B5.out⟩
        · have e : Hid ((S ++ [(f, t)]) ++ firstL (N.drop (k + 1)) (u - (t - f)) = firstL N n0) := Lib.hid (by rw [← HF.out, hstep, if_neg hu, if_neg hd]; simp)
          clear HF hstep
          have d2 : decide (u < t - f) = false := decide_eq_false hd
          have v6 : IntKind.i64.wrap (t - f) = t - f := IntWalk.i64_in _ (by omega)
          have v7 : IntKind.i64.wrap (u - (t - f)) = u - (t - f) := IntWalk.i64_in _ (by omega)
          have one : Hid (∀ x ∈ [Value.int .i64 f, .int .i64 t], x.oneCell' = true) := Lib.hid (by simp; exact ⟨rfl, rfl⟩)
          have O3 := Lib.hid (own_below (own_below HO.out (new_block (.cells #[.int .i64 f, .int .i64 t] 49))) (new_block (.cells #[.int .i64 f, .int .i64 (t)] 49)))
          have hb3 : Hid (((wr.alloc (.cells #[.int .i64 f, .int .i64 t] 49)).alloc (.cells #[.int .i64 f, .int .i64 (t)] 49)).heap[wr.heap.size + 1]? = some (.cells #[.int .i64 f, .int .i64 (t)] 49 (0, 0))) := Lib.hid (by simpa using heap_alloc_new (wr.alloc (.cells #[.int .i64 f, .int .i64 t] 49)) (.cells #[.int .i64 f, .int .i64 (t)] 49))
          have B4 := Lib.hid (B3.out.alloc B3.out.size (.cells #[.int .i64 f, .int .i64 (t)] 49))
          have hB3 := Lib.hid B4.out.size
          go_wp2_with (at_builtin; refine wpList_append_lies _ rfl (.tmp 39) (.tmp 41) 23 rfl w1.heap.size 49 i0 (.agg #[.int .i64 0, .int .i64 0]) 2 16 Try.underlying23 hi hz0 hz1 hz2 rfl (by decide) _ S.length (cells2 S) rfl O3.out ⟨wr.heap.size + 1, 0, none⟩ 1 1 [.int .i64 f, .int .i64 (t)] rfl rfl (World.news_of_block hb3.out) one.out (by decide) (by unfold maxLen; omega) (by omega) hB3.out _ rfl ?_; intro gq cq w5 O2 G2 hg2 hl2)
          have B5 := Lib.hid (B4.out.grown G2 hB3.out (fun k hk => (O3.out.lt k hk).1))
          have O5 : Hid (Spans w5 w1.heap.size (.slice (some ⟨gq, 0, none⟩) (S.length + 1) cq) (S ++ [(f, t)])) := Lib.hid (by unfold Spans; rw [cells2_snoc]; simpa using O2)
          clear O2 G2 hg2 hl2 O3 hb3 B4 hB3 one
          go_wp2_with fail
          go_roundw
          case rel => exact ⟨k + 1, u - (t - f), S ++ [(f, t)], by omega, by go_num, rfl, by omega, by omega, Lib.hid (by simp; omega), e, O5, B5⟩
          case measure => simp [intOf]; omega
    · obtain rfl : k = m := by omega
      have e : Hid (firstL N n0 = S) := Lib.hid (by rw [← HF.out, List.drop_of_length_le (by rw [hn.out]; exact Nat.le_refl _)]; simp [firstL])
      go_wp2_with fail
      go_ret
      exact ⟨⟨_, N, I.out, HL.out, rfl, by rw [e.out]; exact own_mono HO.out hw1⟩, B1.out.trans (HB.out.mono hw1)⟩
end Spn
end Go.Proofs.Ytfmhfhggogjbkaa
