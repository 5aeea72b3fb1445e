/- The reference's Shift at any numbers. -/
import Derived.Test.YtfmhfhggogjbkaaRfVa
import Derived.RegionTactic
set_option linter.unusedVariables false
set_option linter.unusedSimpArgs false
namespace Go.Proofs.Ytfmhfhggogjbkaa
open Go.RowKit Dice
namespace Spn
open Sp (cells2 cells2_snoc cells2_get Spans own_kept own_below own_mono own_shape)
set_option maxHeartbeats 4000000 in
theorem refshift_no {w : World} {v : Value} {L N0 : LP} (d : Int) (h : Its w v L) (hN : Is N0 (hasB L)) (hI : ¬ Near N0 ∨ ¬ (-1152921504606846976 ≤ d ∧ d ≤ 1152921504606846976)) (h9 : L.length ≤ 200) :
    Calls Try.prog 34 #[v, .int .i64 d] w fun e w' => e = .returned (.tuple #[.slice none 0 0, .int .i64 2]) ∧ Below w.heap.size w w' := by
  have C1 := Lib.hid (refnormal_any h h9)
  replace hN := Lib.hid hN
  clear h
  by_cases c1 : -1152921504606846976 ≤ d ∧ d ≤ 1152921504606846976
  · have F1 := Lib.hid fun w' => refin_b d (-1152921504606846976) 1152921504606846976 w' c1.1 c1.2
    replace hI : ¬ Near N0 := hI.resolve_right (fun h => h c1)
    replace hI := Lib.hid hI
    clear c1
    go_enter Try.func34, Try.ntmps34
    go_wp2_with fail
    refine C1.out.mono ?_
    rintro e w1 ⟨⟨r, N, rfl, O, I, hl⟩, b1⟩
    obtain rfl := Is.unique hN.out I
    have NE := Lib.hid (near_no O hI.out I.canon (by omega))
    have B1 := Lib.hid b1
    obtain ⟨sa, sc, rfl⟩ := own_len O
    clear O I b1 C1 hl
    go_wp2_with (go_at_call 62; (with_reducible refine (F1.out _).mono ?_); rintro e w2 ⟨rfl, rfl⟩)
    refine NE.out.mono ?_
    rintro e w2 ⟨rfl, b2⟩
    go_wp2_with fail
    go_ret2
    exact ⟨rfl, Buf.then_ B1.out b2⟩
  · have F1 := Lib.hid fun w' => refin_no d (-1152921504606846976) 1152921504606846976 w' c1
    clear c1 hI
    go_enter Try.func34, Try.ntmps34
    go_wp2_with fail
    refine C1.out.mono ?_
    rintro e w1 ⟨⟨r, N, rfl, O, I, hl⟩, b1⟩
    have B1 := Lib.hid b1
    obtain ⟨sa, sc, rfl⟩ := own_len O
    clear O I b1 C1 hl
    go_wp2_with (go_at_call 62; (with_reducible refine (F1.out _).mono ?_); rintro e w2 ⟨rfl, rfl⟩)
    go_ret2
    exact ⟨rfl, B1.out⟩
set_option maxHeartbeats 4000000 in
set_option maxRecDepth 100000 in
theorem refshift_gen {w : World} {v : Value} {L N : LP} (d : Int) (h : Its w v L) (hN : Is N (hasB L)) (hI : Near N) (hd1 : -1152921504606846976 ≤ d) (hd2 : d ≤ 1152921504606846976) (h9 : L.length ≤ 200) :
    Calls Try.prog 34 #[v, .int .i64 d] w fun e w' => (∃ r, e = .returned (.tuple #[r, .int .i64 0]) ∧ Spans w' w.heap.size r (moveL N d)) ∧ Below w.heap.size w w' := by
  have C1 := Lib.hid (refnormal_any h h9)
  have F1 := Lib.hid fun w' => refin_b d (-1152921504606846976) 1152921504606846976 w' hd1 hd2
  replace hN := Lib.hid hN
  have HI := Lib.hid hI
  clear h hI
  go_enter Try.func34, Try.ntmps34
  go_wp2_with fail
  refine C1.out.mono ?_
  rintro e w1 ⟨⟨r, N', rfl, O, I, hl⟩, b1⟩
  obtain rfl := Is.unique hN.out I
  have NE := Lib.hid (near_gen O HI.out I.canon (by omega))
  have HC := Lib.hid I.canon
  have B1 := Lib.hid b1
  have hsh := own_shape O
  have HO := Lib.hid O
  have hn9 : N.length ≤ 200 := by omega
  clear O I b1 C1 hl
  rcases hsh with ⟨rfl, hn⟩ | ⟨g, c, rfl, hc, hg⟩
  · obtain rfl : N = [] := List.length_eq_zero_iff.1 hn
    go_wp2_with (go_at_call 62; (with_reducible refine (F1.out _).mono ?_); rintro e w2 ⟨rfl, rfl⟩)
    refine NE.out.mono ?_
    rintro e w2 ⟨rfl, b2⟩
    have B2 := Lib.hid (Buf.then_ B1.out b2)
    have O2 : Hid (Spans w2 w.heap.size (.slice none 0 0) (moveL [] d)) := Lib.hid (World.ownsRow_nil _ _ _ _)
    go_wp2_with fail
    go_loop [7] (fun i => i = .int .i64 0) (fun _ => 0)
    case atStart => rfl
    case round =>
      subst hrel
      go_wp2_with fail
      go_ret2
      exact ⟨⟨_, rfl, O2.out⟩, B2.out⟩
  · obtain ⟨n, hn⟩ : ∃ n, n = N.length := ⟨_, rfl⟩
    have hgB := (HO.out.lt g rfl).1
    rw [← hn] at hc hn9 NE ⊢
    have HO' := Lib.hid (show w1.ownsRow w.heap.size 49 2 (.slice (some ⟨g, 0, none⟩) n c) n (cells2 N) from by have := HO.out; unfold Spans at this; rw [← hn] at this; exact this)
    replace hn := Lib.hid hn
    go_wp2_with (go_at_call 62; (with_reducible refine (F1.out _).mono ?_); rintro e w2 ⟨rfl, rfl⟩)
    refine NE.out.mono ?_
    rintro e w2 ⟨rfl, b2⟩
    have B2 := Lib.hid (Buf.then_ B1.out b2)
    have O2 : Hid (w2.ownsRow w.heap.size 49 2 (.slice (some ⟨g, 0, none⟩) n c) n (cells2 (partL N d 0))) := Lib.hid (own_below (by simpa [partL, moveL] using HO'.out) b2)
    clear HO HO' b2 B1 NE
    go_wp2_with fail
    go_loopw [7] (fun i wr => ∃ kx : Nat, kx ≤ n ∧ i = .int .i64 kx ∧ Hid (wr.ownsRow w.heap.size 49 2 (.slice (some ⟨g, 0, none⟩) n c) n (cells2 (partL N d kx))) ∧ Hid (Below w.heap.size w wr)) (fun i _ => n - (intOf i).toNat)
    case atStart => exact ⟨0, Nat.zero_le _, rfl, O2, B2⟩
    case round =>
      clear O2 B2
      obtain ⟨kx, hk, rfl, HO, HB⟩ := hrel
      by_cases hlt : kx < n
      · obtain ⟨⟨f, t⟩, hp⟩ : ∃ p, N[kx]? = some p := ⟨N[kx]'(by rw [← hn.out]; exact hlt), List.getElem?_eq_getElem _⟩
        obtain ⟨p1, p2, p3⟩ := partL_at (d := d) hp
        have i1 := HI.out _ (List.mem_of_getElem? hp)
        have i2 := HC.out.at hp
        dsimp only at i1 i2
        have o1 := HO.out
        rw [p1] at o1
        obtain ⟨k0, k1⟩ := cells_at o1 kx p3 hlt
        have o2 := store_from (f + d) o1 kx p3
        have o3 := store_to (t + d) o2 kx p3
        rw [← p2] at o3
        obtain ⟨j0, j1⟩ := cells_at o2 kx p3 hlt
        have z1 := World.ownsRow.frozenAt o1 (kx * 2)
        have z0 := World.ownsRow.frozenAt o1 (kx * 2 + 1)
        have z2 := World.ownsRow.frozenAt o2 (kx * 2 + 1)
        have w1_ : IntKind.i64.wrap (f + d) = f + d := IntWalk.i64_in _ (by omega)
        have w2_ : IntKind.i64.wrap (t + d) = t + d := IntWalk.i64_in _ (by omega)
        have O3 := Lib.hid o3
        have B3 := Lib.hid ((HB.out.setCell (p := ⟨g, kx * 2, none⟩) hgB (.int .i64 (f + d))).setCell (p := ⟨g, kx * 2 + 1, none⟩) hgB (.int .i64 (t + d)))
        have b1 : (kx : Int) < n := by omega
        replace hp := Lib.hid hp
        clear o1 o2 o3 p1 p2 p3 HO HB i1 i2
        go_upto_region 7 with fail
        go_region
        all_goals go_wp2_with fail
        all_goals go_roundw
        all_goals first
          | (case rel => exact ⟨kx + 1, by omega, by go_num, Lib.hid (by repeat (first | exact O3.out | refine own_below ?_ (Below.refl _ _).drew)), Lib.hid (by repeat (first | exact B3.out | refine Below.drew ?_))⟩)
          | (case measure => simp [intOf]; omega)
      · obtain rfl : kx = n := by omega
        have e : Hid (partL N d kx = moveL N d) := Lib.hid (by unfold partL; rw [take_all N kx (by rw [hn.out]; exact Nat.le_refl _), List.drop_of_length_le (by rw [hn.out]; exact Nat.le_refl _)]; simp)
        have O4 : Hid (Spans wr w.heap.size (.slice (some ⟨g, 0, none⟩) kx c) (moveL N d)) := Lib.hid (by have := HO.out; rw [e.out] at this; unfold Spans; rw [moveL_length, ← hn.out]; exact this)
        go_wp2_with fail
        go_ret2
        exact ⟨⟨_, rfl, O4.out⟩, HB.out⟩
end Spn
end Go.Proofs.Ytfmhfhggogjbkaa
