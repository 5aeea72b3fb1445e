/- The reference's Valid at any list. -/
import Derived.Test.YtfmhfhggogjbkaaRfXF
import Derived.Test.YtfmhfhggogjbkaaItX
set_option linter.unusedVariables false
set_option linter.unusedSimpArgs false
namespace Go.Proofs.Ytfmhfhggogjbkaa
open Go.RowKit Dice
namespace Spn
open Sp (cells2 cells2_snoc cells2_get Spans own_kept own_below own_mono own_shape)
set_option maxHeartbeats 4000000 in
set_option maxRecDepth 100000 in
theorem refvalid08_anyw {w : World} {v : Value} {L : LP} (r : Bool) (hr : r = true ↔ Canon L) (h : Itw w v L) (h9 : L.length ≤ 200) :
    Calls Try.prog 25 #[v] w fun e w' => e = .returned (.bool r) ∧ Below w.heap.size w w' := by
  obtain ⟨ad, c, rfl, hc, hf⟩ := itw_form h
  obtain ⟨n, hn⟩ : ∃ n, n = L.length := ⟨_, rfl⟩
  rw [← hn] at hc h9 ⊢
  replace hn := Lib.hid hn
  have F := Lib.hid hf
  have HR := Lib.hid hr
  have T0 : Hid (Canon (L.take 0)) := Lib.hid Canon.nil
  have W0 := Lib.hid (Below.refl w.heap.size w)
  clear h hf hr
  go_enter Try.func25, Try.ntmps25
  go_wp2_with fail
  go_loopw [3] (fun i wr => ∃ kx : Nat, kx ≤ n ∧ i = .int .i64 kx ∧ Hid (Below w.heap.size w wr) ∧ Hid (Canon (L.take kx))) (fun i _ => n - (intOf i).toNat)
  case atStart => exact ⟨0, Nat.zero_le _, rfl, W0, T0⟩
  case round =>
    clear W0 T0
    obtain ⟨kx, hk, rfl, HB, HT⟩ := hrel
    by_cases hlt : kx < n
    · obtain ⟨⟨f, t⟩, hp⟩ : ∃ p, L[kx]? = some p := ⟨L[kx]'(by rw [← hn.out]; exact hlt), List.getElem?_eq_getElem _⟩
      obtain ⟨g, o, rfl, hg, q0, q1⟩ := F.out kx _ hp
      have k0 := (HB.out.cell (p := ⟨g, _, none⟩) hg).trans q0
      have k1 := (HB.out.cell (p := ⟨g, _, none⟩) hg).trans q1
      dsimp only at k0 k1
      have b1 : (kx : Int) < n := by omega
      have hp' := Lib.hid hp
      by_cases hft : t ≤ f
      · obtain rfl : r = false := by
          rw [← Bool.not_eq_true, HR.out]
          intro hh
          have := hh.at hp'.out
          dsimp only at this
          omega
        have d1 : decide (t ≤ f) = true := decide_eq_true hft
        clear q0 q1 hp
        go_wp2_with fail
        go_quiet (fail)
        go_wp2_with fail
        go_ret
        exact ⟨rfl, by repeat (first | exact HB.out | refine Buf.below_drewN ?_ _)⟩
      have d1 : decide (t ≤ f) = false := decide_eq_false hft
      have ft : f < t := by omega
      clear hft
      rcases Nat.eq_zero_or_pos kx with hk0 | hk0
      · have d0 : decide ((0 : Int) < (kx : Int)) = false := decide_eq_false (by omega)
        have d0n : decide (0 < kx) = false := decide_eq_false (by omega)
        have NT : Hid (Canon (L.take (kx + 1))) := Lib.hid (canon_take_succ HT.out hp ft (fun j p hj => by omega))
        replace hk0 := Lib.hid hk0
        clear q0 q1 hp HT
        go_wp2_with fail
        go_quiet (fail)
        go_wp2_with fail
        go_roundw
        case rel => exact ⟨kx + 1, by omega, by go_num, Lib.hid (by repeat (first | exact HB.out | refine Buf.below_drewN ?_ _)), NT⟩
        case measure => simp [intOf]; omega
      · obtain ⟨k1', hk1⟩ : ∃ k1', k1' + 1 = kx := ⟨kx - 1, by omega⟩
        obtain ⟨⟨x, y⟩, hx⟩ : ∃ p, L[k1']? = some p := ⟨L[k1']'(by rw [← hn.out]; omega), List.getElem?_eq_getElem _⟩
        obtain ⟨g', o', eg, _, _, q3⟩ := F.out k1' _ hx
        cases eg
        have k3 := (HB.out.cell (p := ⟨g, _, none⟩) hg).trans q3
        dsimp only at k3
        have e1 : (kx : Int) - 1 = (k1' : Int) := by omega
        have bk : (k1' : Int) < (n : Int) := by omega
        have d0 : decide ((0 : Int) < (kx : Int)) = true := decide_eq_true (by omega)
        have d0n : decide (0 < kx) = true := decide_eq_true (by omega)
        by_cases fy : f ≤ y
        · obtain rfl : r = false := by
            rw [← Bool.not_eq_true, HR.out]
            intro hh
            have := hh.get (show k1' < kx by omega) hx hp
            dsimp only at this
            omega
          have d2 : decide (f ≤ y) = true := decide_eq_true fy
          replace hk1 := Lib.hid hk1
          clear q0 q1 q3 hp hx hk0
          go_wp2_with fail
          go_quiet (fail)
          go_wp2_with fail
          go_ret
          exact ⟨rfl, by repeat (first | exact HB.out | refine Buf.below_drewN ?_ _)⟩
        have d2 : decide (f ≤ y) = false := decide_eq_false fy
        have NT : Hid (Canon (L.take (kx + 1))) := Lib.hid (canon_take_succ HT.out hp ft (fun j p hj hjp => by
          obtain rfl : j = k1' := by omega
          rw [hx] at hjp; cases hjp; simp only; omega))
        replace hk1 := Lib.hid hk1
        clear q0 q1 q3 hp hx hk0 HT fy
        go_wp2_with fail
        go_quiet (fail)
        go_wp2_with fail
        go_roundw
        case rel => exact ⟨kx + 1, by omega, by go_num, Lib.hid (by repeat (first | exact HB.out | refine Buf.below_drewN ?_ _)), NT⟩
        case measure => simp [intOf]; omega
    · obtain rfl : kx = n := by omega
      obtain rfl : r = true := HR.out.2 (by have := HT.out; rw [take_all L kx (by rw [← hn.out]; exact Nat.le_refl _)] at this; exact this)
      go_wp2_with fail
      go_ret
      exact ⟨rfl, HB.out⟩
end Spn
end Go.Proofs.Ytfmhfhggogjbkaa
