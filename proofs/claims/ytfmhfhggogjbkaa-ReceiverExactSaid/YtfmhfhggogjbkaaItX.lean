/- A list of spans at any offset. -/
import Derived.Test.YtfmhfhggogjbkaaSpnEI
set_option linter.unusedVariables false
set_option linter.unusedSimpArgs false
namespace Go.Proofs.Ytfmhfhggogjbkaa
open Go.RowKit Dice
namespace Spn
/-- A list of spans that can be read, wherever it begins. -/
def Itw (w : World) (v : Value) (L : LP) : Prop :=
  ∃ ad c, v = .slice ad L.length c ∧ L.length ≤ c ∧ ∀ (k : Nat) (p : Int × Int), L[k]? = some p → ∃ g o, ad = some ⟨g, o, none⟩ ∧ g < w.heap.size ∧ w.cell? ⟨g, o + k * 2, none⟩ = some (.int .i64 p.1) ∧ w.cell? ⟨g, o + k * 2 + 1, none⟩ = some (.int .i64 p.2)
theorem itw_form {w : World} {v : Value} {L : LP} (h : Itw w v L) : ∃ ad c, v = .slice ad L.length c ∧ L.length ≤ c ∧ ∀ (k : Nat) (p : Int × Int), L[k]? = some p → ∃ g o, ad = some ⟨g, o, none⟩ ∧ g < w.heap.size ∧ w.cell? ⟨g, o + k * 2, none⟩ = some (.int .i64 p.1) ∧ w.cell? ⟨g, o + k * 2 + 1, none⟩ = some (.int .i64 p.2) := h
theorem Its.wide {w : World} {v : Value} {L : LP} (h : Its w v L) : Itw w v L := by
  obtain ⟨ad, c, e, hc, hf⟩ := its_form h
  refine ⟨ad, c, e, hc, fun k p hp => ?_⟩
  obtain ⟨g, e, hg, h0, h1⟩ := hf k p hp
  exact ⟨g, 0, e, hg, by simpa using h0, by simpa using h1⟩
theorem Itw.keep {w w' : World} {v : Value} {L : LP} (h : Itw w v L) (hb : Below w.heap.size w w') : Itw w' v L := by
  obtain ⟨ad, c, e, hc, hf⟩ := h
  refine ⟨ad, c, e, hc, fun k p hp => ?_⟩
  obtain ⟨g, o, e, hg, h0, h1⟩ := hf k p hp
  exact ⟨g, o, e, Nat.lt_of_lt_of_le hg hb.size, (hb.cell (p := ⟨g, _, none⟩) hg).trans h0, (hb.cell (p := ⟨g, _, none⟩) hg).trans h1⟩
set_option maxHeartbeats 2000000 in
theorem has_anyw {w : World} {v : Value} {L : LP} (x : Int) (h : Itw w v L) (h9 : L.length ≤ 1000) :
    Calls Try.prog 27 #[v, .int .i64 x] w fun e w' => e = .returned (.bool (hasB L x)) ∧ Below w.heap.size w w' := by
  obtain ⟨r, hr⟩ : ∃ r, r = hasB L x := ⟨_, rfl⟩
  rw [← hr]
  obtain ⟨ad, c, rfl, hc, hf⟩ := itw_form h
  obtain ⟨n, hn⟩ : ∃ n, n = L.length := ⟨_, rfl⟩
  rw [← hn] at hc h9 ⊢
  replace hr := Lib.hid hr
  replace hn := Lib.hid hn
  have F := Lib.hid hf
  have W0 := Lib.hid (Below.refl w.heap.size w)
  clear h hf
  go_enter Try.func27, Try.ntmps27
  go_wp2_with fail
  go_loopw [9] (fun i wr => ∃ k : Nat, k ≤ n ∧ i = .int .i64 k ∧ Hid (hasB (L.take k) x = false) ∧ Hid (Below w.heap.size w wr)) (fun i _ => n - (intOf i).toNat)
  case atStart => exact ⟨0, Nat.zero_le _, rfl, Lib.hid rfl, W0⟩
  case round =>
    clear W0
    obtain ⟨k, hk, rfl, HT, HB⟩ := hrel
    by_cases hlt : k < n
    · obtain ⟨⟨f, t⟩, hp⟩ : ∃ p, L[k]? = some p := ⟨L[k]'(by rw [← hn.out]; exact hlt), List.getElem?_eq_getElem _⟩
      obtain ⟨g, o, rfl, hg, q0, q1⟩ := F.out k _ hp
      have k0 := (HB.out.cell (p := ⟨g, _, none⟩) hg).trans q0
      have k1 := (HB.out.cell (p := ⟨g, _, none⟩) hg).trans q1
      dsimp only at k0 k1
      have B2 := Lib.hid (HB.out.alloc HB.out.size (.cells #[.int .i64 f, .int .i64 t] 49))
      by_cases hx : f ≤ x ∧ x < t
      · obtain rfl : r = true := by rw [hr.out]; exact has_at.2 ⟨k, _, hp, hx⟩
        obtain ⟨x1, x2⟩ := hx
        replace hp := Lib.hid hp
        clear q0 q1
        go_wp2
        go_ret
        exact ⟨rfl, B2.out⟩
      · have HT' := Lib.hid (has_take_no HT.out hp hx)
        replace hp := Lib.hid hp
        clear q0 q1
        by_cases x1 : f ≤ x
        · have x2 : t ≤ x := by omega
          clear hx HT
          go_wp2_with fail
          go_roundw
          case rel => exact ⟨k + 1, by omega, by go_num, HT', B2⟩
          case measure => simp [intOf]; omega
        · have x2 : x < f := by omega
          clear hx HT x1
          go_wp2_with fail
          go_roundw
          case rel => exact ⟨k + 1, by omega, by go_num, HT', B2⟩
          case measure => simp [intOf]; omega
    · obtain rfl : k = n := by omega
      obtain rfl : r = false := by rw [hr.out, ← take_all L k (by rw [hn.out]; exact Nat.le_refl _)]; exact HT.out
      go_wp2
      go_ret
      exact ⟨rfl, HB.out⟩
set_option maxHeartbeats 2000000 in
theorem refhas_anyw {w : World} {v : Value} {L : LP} (x : Int) (h : Itw w v L) (h9 : L.length ≤ 1000) :
    Calls Try.prog 28 #[v, .int .i64 x] w fun e w' => e = .returned (.bool (hasB L x)) ∧ Below w.heap.size w w' := by
  obtain ⟨r, hr⟩ : ∃ r, r = hasB L x := ⟨_, rfl⟩
  rw [← hr]
  obtain ⟨ad, c, rfl, hc, hf⟩ := itw_form h
  obtain ⟨n, hn⟩ : ∃ n, n = L.length := ⟨_, rfl⟩
  rw [← hn] at hc h9 ⊢
  replace hr := Lib.hid hr
  replace hn := Lib.hid hn
  have F := Lib.hid hf
  have W0 := Lib.hid (Below.refl w.heap.size w)
  clear h hf
  go_enter Try.func28, Try.ntmps28
  go_wp2_with fail
  go_loopw [5] (fun i wr => ∃ k : Nat, k ≤ n ∧ i = .int .i64 k ∧ Hid (hasB (L.take k) x = false) ∧ Hid (Below w.heap.size w wr)) (fun i _ => n - (intOf i).toNat)
  case atStart => exact ⟨0, Nat.zero_le _, rfl, Lib.hid rfl, W0⟩
  case round =>
    clear W0
    obtain ⟨k, hk, rfl, HT, HB⟩ := hrel
    by_cases hlt : k < n
    · obtain ⟨⟨f, t⟩, hp⟩ : ∃ p, L[k]? = some p := ⟨L[k]'(by rw [← hn.out]; exact hlt), List.getElem?_eq_getElem _⟩
      obtain ⟨g, o, rfl, hg, q0, q1⟩ := F.out k _ hp
      have k0 := (HB.out.cell (p := ⟨g, _, none⟩) hg).trans q0
      have k1 := (HB.out.cell (p := ⟨g, _, none⟩) hg).trans q1
      dsimp only at k0 k1
      by_cases hx : f ≤ x ∧ x < t
      · obtain rfl : r = true := by rw [hr.out]; exact has_at.2 ⟨k, _, hp, hx⟩
        obtain ⟨x1, x2⟩ := hx
        replace hp := Lib.hid hp
        clear q0 q1
        go_wp2
        go_ret
        exact ⟨rfl, HB.out⟩
      · have HT' := Lib.hid (has_take_no HT.out hp hx)
        replace hp := Lib.hid hp
        clear q0 q1
        by_cases x1 : f ≤ x
        · have x2 : t ≤ x := by omega
          clear hx HT
          go_wp2_with fail
          go_roundw
          case rel => exact ⟨k + 1, by omega, by go_num, HT', HB⟩
          case measure => simp [intOf]; omega
        · have x2 : x < f := by omega
          clear hx HT x1
          go_wp2_with fail
          go_roundw
          case rel => exact ⟨k + 1, by omega, by go_num, HT', HB⟩
          case measure => simp [intOf]; omega
    · obtain rfl : k = n := by omega
      obtain rfl : r = false := by rw [hr.out, ← take_all L k (by rw [hn.out]; exact Nat.le_refl _)]; exact HT.out
      go_wp2
      go_ret
      exact ⟨rfl, HB.out⟩
end Spn
end Go.Proofs.Ytfmhfhggogjbkaa
