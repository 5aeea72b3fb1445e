/- span.Length, Shift where the ends of the valid list are near. -/
import Derived.Test.YtfmhfhggogjbkaaSpY
set_option linter.unusedVariables false
set_option linter.unusedSimpArgs false
namespace Go.Proofs.Ytfmhfhggogjbkaa
open Go.RowKit Dice
namespace Spn
open Sp (cells2 cells2_snoc cells2_get Spans own_kept own_below own_mono own_shape)
set_option maxRecDepth 100000 in
set_option maxHeartbeats 4000000 in
theorem length_near {w : World} {v : Value} {L N0 : LP} (h : Its w v L) (hN0 : Is N0 (hasB L)) (hI : Near N0) (h9 : L.length ≤ 500) :
    Calls Try.prog 35 #[v] w fun e w' => (∃ N, Is N (hasB L) ∧ e = .returned (.tuple #[.int .i64 (lenL N), .bool true])) ∧ Below w.heap.size w w' := by
  have C1 := Lib.hid (normal_any h h9)
  replace hI := Lib.hid hI
  replace hN0 := Lib.hid hN0
  clear h
  go_enter Try.func35, Try.ntmps35
  go_wp2_with fail
  refine C1.out.mono ?_
  rintro e w1 ⟨⟨r, N, rfl, O, I, hl⟩, b1⟩
  have HI := Lib.hid (show Inside N (-1152921504606846976) 1152921504606846976 from by rw [Is.unique I hN0.out]; exact hI.out)
  have HC := Lib.hid I.canon
  have C2 := Lib.hid (isNear_yes (its_of_own O) HI.out (by omega))
  obtain ⟨ad, c, rfl, hc, hf⟩ := its_form (its_of_own O)
  obtain ⟨n, hn⟩ : ∃ n, n = N.length := ⟨_, rfl⟩
  rw [← hn] at hc hl C2 ⊢
  replace hn := Lib.hid hn
  have hn9 : n ≤ 500 := by omega
  have F := Lib.hid hf
  have B1 := Lib.hid b1
  replace I := Lib.hid I
  clear O hf b1 C1 hl h9
  go_wp2_with fail
  refine C2.out.mono ?_
  rintro e w2 ⟨rfl, b2⟩
  have F2 : Hid (∀ (k : Nat) (p : Int × Int), N[k]? = some p → ∃ g, ad = some ⟨g, 0, none⟩ ∧ g < w2.heap.size ∧ w2.cell? ⟨g, k * 2, none⟩ = some (.int .i64 p.1) ∧ w2.cell? ⟨g, k * 2 + 1, none⟩ = some (.int .i64 p.2)) := Lib.hid fun k p hp => by
    obtain ⟨g, e, h1, h2, h3⟩ := F.out k p hp
    exact ⟨g, e, Nat.lt_of_lt_of_le h1 b2.size, (b2.cell (p := ⟨g, _, none⟩) h1).trans h2, (b2.cell (p := ⟨g, _, none⟩) h1).trans h3⟩
  have B2 := Lib.hid (Buf.then_ B1.out b2)
  have hw2 := B2.out.size
  have A0 := Lib.hid (Below.refl w2.heap.size w2)
  clear F B1 b2 C2
  go_wp2_with fail
  go_loopw [15, 5] (fun i s wr => ∃ (k : Nat) (u : Int), k ≤ n ∧ i = .int .i64 k ∧ s = .int .i64 u ∧ Hid (u = lenL (N.take k)) ∧ Hid (Below w2.heap.size w2 wr)) (fun i _ _ => n - (intOf i).toNat)
  case atStart => exact ⟨0, 0, Nat.zero_le _, rfl, rfl, Lib.hid rfl, A0⟩
  case round =>
    clear A0
    obtain ⟨k, u, hk, rfl, rfl, HU, HB⟩ := hrel
    by_cases hlt : k < n
    · obtain ⟨⟨f, t⟩, hp⟩ : ∃ p, N[k]? = some p := ⟨N[k]'(by rw [← hn.out]; exact hlt), List.getElem?_eq_getElem _⟩
      obtain ⟨g, rfl, hg, q0, q1⟩ := F2.out k _ hp
      have k0 := (HB.out.cell (p := ⟨g, _, none⟩) hg).trans q0
      have k1 := (HB.out.cell (p := ⟨g, _, none⟩) hg).trans q1
      dsimp only at k0 k1
      obtain ⟨s1, s2⟩ := step_wraps HC.out HI.out hp
      rw [← HU.out] at s2
      obtain ⟨u2, hu2⟩ : ∃ u2, u2 = lenL (N.take (k + 1)) := ⟨_, rfl⟩
      obtain ⟨d, hd⟩ : ∃ d, d = t - f := ⟨_, rfl⟩
      rw [← hu2] at s2
      rw [← hd] at s1 s2
      replace hu2 := Lib.hid hu2
      have s1' : IntKind.i64.wrap (t - f) = d := by rw [← hd]; exact s1
      have B3 := Lib.hid (HB.out.alloc HB.out.size (.cells #[.int .i64 f, .int .i64 t] 49))
      replace hp := Lib.hid hp
      replace hd := Lib.hid hd
      clear q0 q1 HU s1
      go_wp2_with fail
      go_roundw
      case rel => exact ⟨k + 1, u2, by omega, by go_num, rfl, hu2, B3⟩
      case measure => simp [intOf]; omega
    · obtain rfl : k = n := by omega
      have e : Hid (u = lenL N) := Lib.hid (by rw [HU.out, take_all N k (by rw [hn.out]; exact Nat.le_refl _)])
      go_wp2_with fail
      go_ret2
      exact ⟨⟨N, I.out, by rw [e.out]; rfl⟩, B2.out.trans (HB.out.mono hw2)⟩
set_option maxRecDepth 100000 in
set_option maxHeartbeats 4000000 in
theorem shift_near {w : World} {v : Value} {L N0 : LP} (d : Int) (h : Its w v L) (hN0 : Is N0 (hasB L)) (hI : Near N0) (h9 : L.length ≤ 500) (d0 : -1152921504606846976 ≤ d) (d1 : d ≤ 1152921504606846976) :
    Calls Try.prog 33 #[v, .int .i64 d] w fun e w' => (∃ r N, Is N (hasB L) ∧ N.length ≤ L.length ∧ e = .returned (.tuple #[r, .int .i64 0]) ∧ Spans w' w.heap.size r (moveL N d)) ∧ Below w.heap.size w w' := by
  have C1 := Lib.hid (normal_any h h9)
  replace hI := Lib.hid hI
  replace hN0 := Lib.hid hN0
  clear h
  go_enter Try.func33, Try.ntmps33
  go_wp2_with fail
  refine C1.out.mono ?_
  rintro e w1 ⟨⟨r, N, rfl, O, I, hl⟩, b1⟩
  have HI := Lib.hid (show Inside N (-1152921504606846976) 1152921504606846976 from by rw [Is.unique I hN0.out]; exact hI.out)
  have HC := Lib.hid I.canon
  have C2 := Lib.hid (isNear_yes (its_of_own O) HI.out (by omega))
  have HL := Lib.hid hl
  have hn9 : N.length ≤ 500 := by omega
  have B1 := Lib.hid b1
  have hsh := own_shape O
  have HO := Lib.hid O
  replace I := Lib.hid I
  clear O b1 C1 hl
  rcases hsh with ⟨rfl, hn⟩ | ⟨g, c, rfl, hc, hg⟩
  · obtain rfl : N = [] := List.length_eq_zero_iff.1 hn
    go_wp2_with fail
    refine C2.out.mono ?_
    rintro e w2 ⟨rfl, b2⟩
    have B2 := Lib.hid (Buf.then_ B1.out b2)
    have O2 : Hid (Spans w2 w.heap.size (.slice none 0 0) (moveL [] d)) := Lib.hid (World.ownsRow_nil _ _ _ _)
    go_wp2_with fail
    go_loop [23, 7] (fun i _ => i = .int .i64 0) (fun _ _ => 0)
    case atStart => rfl
    case round =>
      subst hrel
      go_wp2_with fail
      go_ret2
      exact ⟨⟨_, [], I.out, HL.out, rfl, O2.out⟩, B2.out⟩
  · obtain ⟨n, hn⟩ : ∃ n, n = N.length := ⟨_, rfl⟩
    have hgB := (HO.out.lt g rfl).1
    rw [← hn] at hc hn9 HO C2 ⊢
    replace hn := Lib.hid hn
    go_wp2_with fail
    refine C2.out.mono ?_
    rintro e w2 ⟨rfl, b2⟩
    have B2 := Lib.hid (Buf.then_ B1.out b2)
    have O2 : Hid (w2.ownsRow w.heap.size 49 2 (.slice (some ⟨g, 0, none⟩) n c) n (cells2 (partL N d 0))) := Lib.hid (own_below (by have := HO.out; unfold Spans at this; rw [← hn.out] at this; simpa [partL, moveL] using this) b2)
    clear HO b2 B1 C2
    go_wp2_with fail
    go_loopw [23, 7] (fun i _ wr => ∃ k : Nat, k ≤ n ∧ i = .int .i64 k ∧ Hid (wr.ownsRow w.heap.size 49 2 (.slice (some ⟨g, 0, none⟩) n c) n (cells2 (partL N d k))) ∧ Hid (Below w.heap.size w wr)) (fun i _ _ => n - (intOf i).toNat)
    case atStart => exact ⟨0, Nat.zero_le _, rfl, O2, B2⟩
    case round =>
      clear O2 B2
      obtain ⟨k, hk, rfl, HO, HB⟩ := hrel
      by_cases hlt : k < n
      · obtain ⟨⟨f, t⟩, hp⟩ : ∃ p, N[k]? = some p := ⟨N[k]'(by rw [← hn.out]; exact hlt), List.getElem?_eq_getElem _⟩
        obtain ⟨p1, p2, p3⟩ := partL_at (d := d) hp
        have i1 := HI.out _ (List.mem_of_getElem? hp)
        have i2 := HC.out.at hp
        dsimp only at i1 i2
        have o1 := HO.out
        rw [p1] at o1
        obtain ⟨k0, k1⟩ := cells_at o1 k p3 hlt
        have o2 := store_from (f + d) o1 k p3
        have o3 := store_to (t + d) o2 k p3
        rw [← p2] at o3
        obtain ⟨j0, j1⟩ := cells_at o2 k p3 hlt
        have z1 := World.ownsRow.frozenAt o1 (k * 2)
        have z2 := World.ownsRow.frozenAt o2 (k * 2 + 1)
        have w1 : IntKind.i64.wrap (f + d) = f + d := IntWalk.i64_in _ (by omega)
        have w2 : IntKind.i64.wrap (t + d) = t + d := IntWalk.i64_in _ (by omega)
        have O3 := Lib.hid o3
        have B3 := Lib.hid ((HB.out.setCell (p := ⟨g, k * 2, none⟩) hgB (.int .i64 (f + d))).setCell (p := ⟨g, k * 2 + 1, none⟩) hgB (.int .i64 (t + d)))
        have b1 : (k : Int) < n := by omega
        replace hp := Lib.hid hp
        clear o1 o2 o3 p1 p2 p3 HO HB
        go_wp2_with fail
        exact ⟨⟨k + 1, by omega, by go_num, O3, B3⟩, by simp [intOf]; omega⟩
      · obtain rfl : k = n := by omega
        have e : Hid (partL N d k = moveL N d) := Lib.hid (by unfold partL; rw [take_all N k (by rw [hn.out]; exact Nat.le_refl _), List.drop_of_length_le (by rw [hn.out]; exact Nat.le_refl _)]; simp)
        have O4 : Hid (Spans wr w.heap.size (.slice (some ⟨g, 0, none⟩) k c) (moveL N d)) := Lib.hid (by have := HO.out; rw [e.out] at this; unfold Spans; rw [moveL_length, ← hn.out]; exact this)
        go_wp2_with fail
        go_ret2
        exact ⟨⟨_, N, I.out, HL.out, rfl, O4.out⟩, HB.out⟩
theorem firstL_len (l : LP) (n : Int) : (firstL l n).length ≤ l.length := by
  induction l generalizing n with
  | nil => simp [firstL]
  | cons p t ih =>
    unfold firstL
    split
    · simp
    · split
      · simp
      · simp only [List.length_cons]; have := ih (n - (p.2 - p.1)); omega
end Spn
end Go.Proofs.Ytfmhfhggogjbkaa
