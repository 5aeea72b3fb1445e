/- isDecimal; dividing by a small number. -/
import Derived.Test.YtaaeegjinblpiaaDoorNtxA
set_option linter.unusedVariables false
set_option linter.unusedSimpArgs false
namespace Go.Proofs.YtaaeegjinblpiaaDoor
open Go.RowKit Dice
namespace Nt
theorem byte_at {l : List UInt8} {k : Nat} {b : UInt8} (hb : l[k]? = some b) (hk : k < (ByteArray.mk ⟨l⟩).size) : (ByteArray.mk ⟨l⟩)[k] = b := by
  obtain ⟨h, e⟩ := List.getElem?_eq_some_iff.1 hb
  exact e
set_option maxHeartbeats 2000000 in
/-- A text of digits that does not begin with 0. -/
theorem isDecimal_yes (l : List UInt8) (n : Nat) (hn : n = l.length) (h1 : 1 ≤ n) (h9 : n ≤ 1000) (h : Digs l) (hz : n = 1 ∨ ∀ c, l[0]? = some c → c.toNat ≠ 48) (w : World) :
    Calls Tryd.prog 39 #[.string ⟨⟨l⟩⟩] w fun e w' => e = .returned (.bool true) ∧ w' = w := by
  have HC := Lib.hid h
  have hsz : (ByteArray.mk ⟨l⟩).size = n := by rw [hn]; rfl
  have hemp : l.isEmpty = false := by
    cases l with
    | nil => simp at hn; omega
    | cons => rfl
  obtain ⟨b0, hb0⟩ : ∃ b, l[0]? = some b := ⟨l[0]'(by omega), List.getElem?_eq_getElem _⟩
  have hk0 : 0 < (ByteArray.mk ⟨l⟩).size := by omega
  have hby0 := byte_at hb0 hk0
  have hd0 := h b0 (List.mem_of_getElem? hb0)
  have hz' : (¬ ((1 : Int) < n)) ∨ ((1 : Int) < n ∧ ((b0.toNat : Int) == 48) = false) := by
    by_cases e : n = 1
    · left; omega
    · right
      refine ⟨by omega, ?_⟩
      rcases hz with h | h
      · exact absurd h e
      · rw [beq_eq_false_iff_ne]; have := h b0 hb0; omega
  replace hb0 := Lib.hid hb0
  replace hn := Lib.hid hn
  clear h hz
  rcases hz' with hz1 | ⟨hz1, hz2⟩
  all_goals
    go_enter Tryd.func39, Tryd.ntmps39
    go_wp2_with fail
    go_loop [18] (fun i => ∃ k : Nat, k ≤ n ∧ i = .int .i64 k) (fun i => n - (intOf i).toNat)
    case atStart => exact ⟨0, Nat.zero_le _, rfl⟩
    case round =>
      obtain ⟨k, hk, rfl⟩ := hrel
      by_cases hlt : k < n
      · obtain ⟨b, hb⟩ : ∃ b, l[k]? = some b := ⟨l[k]'(by rw [← hn.out]; exact hlt), List.getElem?_eq_getElem _⟩
        have bi : (k : Int) < n := by omega
        obtain ⟨hd1, hd2⟩ := HC.out b (List.mem_of_getElem? hb)
        have hk' : k < (ByteArray.mk ⟨l⟩).size := by rw [hsz]; exact hlt
        have hby := byte_at hb hk'
        replace hb := Lib.hid hb
        go_wp2_with fail
        go_round
        case rel => exact ⟨k + 1, by omega, by go_num⟩
        case measure => simp [intOf]; omega
      · obtain rfl : k = n := by omega
        go_wp2
        go_ret
        exact ⟨rfl, rfl⟩
end Nt
end Go.Proofs.YtaaeegjinblpiaaDoor
