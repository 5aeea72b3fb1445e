/- Same of lists at any offset. -/
import Derived.Test.YtfmhfhggogjbkaaItX
set_option linter.unusedVariables false
set_option linter.unusedSimpArgs false
namespace Go.Proofs.Ytfmhfhggogjbkaa
open Go.RowKit Go.Sort Dice
namespace Spn
open Sp (cells2 cells2_snoc cells2_get Spans own_kept own_below own_mono own_shape)
set_option maxHeartbeats 2000000 in
theorem same_yesw {w : World} {va vb : Value} {L : LP} (ha : Itw w va L) (hb : Itw w vb L) (h9 : L.length ≤ 1000) :
    Calls Try.prog 15 #[va, vb] w fun e w' => e = .returned (.bool true) ∧ Below w.heap.size w w' := by
  obtain ⟨ad, c, rfl, hc, hf⟩ := itw_form ha
  obtain ⟨ad', c', rfl, hc', hf'⟩ := itw_form hb
  obtain ⟨n, hn⟩ : ∃ n, n = L.length := ⟨_, rfl⟩
  rw [← hn] at hc hc' h9 ⊢
  replace hn := Lib.hid hn
  have F := Lib.hid hf
  have F' := Lib.hid hf'
  have W0 := Lib.hid (Below.refl w.heap.size w)
  clear ha hb hf hf'
  go_enter Try.func15, Try.ntmps15
  go_wp2_with fail
  go_loopw [5] (fun i wr => ∃ k : Nat, k ≤ n ∧ i = .int .i64 k ∧ Hid (Below w.heap.size w wr)) (fun i _ => n - (intOf i).toNat)
  case atStart => exact ⟨0, Nat.zero_le _, rfl, W0⟩
  case round =>
    clear W0
    obtain ⟨k, hk, rfl, HB⟩ := hrel
    by_cases hlt : k < n
    · obtain ⟨⟨f, t⟩, hp⟩ : ∃ p, L[k]? = some p := ⟨L[k]'(by rw [← hn.out]; exact hlt), List.getElem?_eq_getElem _⟩
      obtain ⟨g, o, rfl, hg, q0, q1⟩ := F.out k _ hp
      obtain ⟨g', o', rfl, hg', p0, p1⟩ := F'.out k _ hp
      have k0 := (HB.out.cell (p := ⟨g, _, none⟩) hg).trans q0
      have k1 := (HB.out.cell (p := ⟨g, _, none⟩) hg).trans q1
      have j0 := (HB.out.cell (p := ⟨g', _, none⟩) hg').trans p0
      have j1 := (HB.out.cell (p := ⟨g', _, none⟩) hg').trans p1
      dsimp only at k0 k1 j0 j1
      have b1 : (k : Int) < n := by omega
      replace hp := Lib.hid hp
      clear q0 q1 p0 p1
      go_wp2_with fail
      go_quiet (fail)
      go_wp2_with fail
      go_roundw
      case rel => exact ⟨k + 1, by omega, by go_num, Lib.hid (Buf.below_drewN HB.out _)⟩
      case measure => simp [intOf]; omega
    · obtain rfl : k = n := by omega
      go_wp2
      go_ret
      exact ⟨rfl, HB.out⟩
end Spn
end Go.Proofs.Ytfmhfhggogjbkaa
