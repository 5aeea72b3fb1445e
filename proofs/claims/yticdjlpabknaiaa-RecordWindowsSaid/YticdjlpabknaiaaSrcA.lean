/- Identifiers: bytes, codes, Valid; strings are told by lists of bytes. -/
import Derived.Test.YticdjlpabknaiaaRecA
set_option linter.unusedVariables false
set_option linter.unusedSimpArgs false
namespace Go.Proofs.Yticdjlpabknaiaa
open Go.RowKit Dice
namespace Sc
def cap (x : Int) : Bool := decide ((65 ≤ x ∧ x ≤ 90) ∨ (48 ≤ x ∧ x ≤ 57))
theorem cap_any (x : Int) (w : World) : Calls Try.prog 60 #[.int .u8 x] w fun e w' => e = .returned (.bool (cap x)) ∧ w' = w := by
  rcases Int.lt_or_le x 48 with h1 | h1
  · have e : Hid (cap x = false) := Lib.hid (decide_eq_false (by omega))
    rw [e.out]
    go_enter Try.func60, Try.ntmps60
    go_wp2
    go_ret
    first | exact ⟨rfl, rfl⟩ | (refine ⟨?_, rfl⟩; simp; omega)
  rcases Int.lt_or_le 57 x with h2 | h2
  · rcases Int.lt_or_le x 65 with h3 | h3
    · have e : Hid (cap x = false) := Lib.hid (decide_eq_false (by omega))
      rw [e.out]
      go_enter Try.func60, Try.ntmps60
      go_wp2
      go_ret
      first | exact ⟨rfl, rfl⟩ | (refine ⟨?_, rfl⟩; simp; omega)
    rcases Int.lt_or_le 90 x with h4 | h4
    · have e : Hid (cap x = false) := Lib.hid (decide_eq_false (by omega))
      rw [e.out]
      go_enter Try.func60, Try.ntmps60
      go_wp2
      go_ret
      first | exact ⟨rfl, rfl⟩ | (refine ⟨?_, rfl⟩; simp; omega)
    · have e : Hid (cap x = true) := Lib.hid (decide_eq_true (by omega))
      rw [e.out]
      go_enter Try.func60, Try.ntmps60
      go_wp2
      go_ret
      first | exact ⟨rfl, rfl⟩ | (refine ⟨?_, rfl⟩; simp; omega)
  · have e : Hid (cap x = true) := Lib.hid (decide_eq_true (by omega))
    rw [e.out]
    go_enter Try.func60, Try.ntmps60
    go_wp2
    go_ret
    first | exact ⟨rfl, rfl⟩ | (refine ⟨?_, rfl⟩; simp; omega)
/-- A code: capitals and digits. -/
def Code (l : List UInt8) : Prop := ∀ (k : Nat) (b : UInt8), l[k]? = some b → cap (b.toNat : Int) = true
instance (l : List UInt8) : Decidable (∀ b ∈ l, cap (b.toNat : Int) = true) := inferInstance
theorem code_of {l : List UInt8} (h : ∀ b ∈ l, cap (b.toNat : Int) = true) : Code l := fun k b hb => h b (List.mem_of_getElem? hb)
theorem cap_yes (x : Int) (h : cap x = true) (w : World) : Calls Try.prog 60 #[.int .u8 x] w fun e w' => e = .returned (.bool true) ∧ w' = w := by
  have := cap_any x w
  rwa [h] at this
theorem byte_at {l : List UInt8} {k : Nat} {b : UInt8} (hb : l[k]? = some b) (hk : k < (ByteArray.mk ⟨l⟩).size) : (ByteArray.mk ⟨l⟩)[k] = b := by
  obtain ⟨h, e⟩ := List.getElem?_eq_some_iff.1 hb
  exact e
set_option maxHeartbeats 1000000 in
theorem isCode_yes (l : List UInt8) (n : Nat) (hn : n = l.length) (lo hi : Int) (h0 : lo ≤ n) (h1 : (n : Int) ≤ hi) (h9 : n ≤ 1000) (h : Code l) (w : World) :
    Calls Try.prog 54 #[.string ⟨⟨l⟩⟩, .int .i64 lo, .int .i64 hi] w fun e w' => e = .returned (.bool true) ∧ w' = w := by
  have HC := Lib.hid h
  have C := Lib.hid cap_any
  have hsz : (ByteArray.mk ⟨l⟩).size = n := by rw [hn]; rfl
  replace hn := Lib.hid hn
  clear h
  go_enter Try.func54, Try.ntmps54
  go_wp2_with fail
  go_loop [20] (fun i => ∃ k : Nat, k ≤ n ∧ i = .int .i64 k) (fun i => n - (intOf i).toNat)
  case atStart => exact ⟨0, Nat.zero_le _, rfl⟩
  case round =>
    obtain ⟨k, hk, rfl⟩ := hrel
    by_cases hlt : k < n
    · obtain ⟨b, hb⟩ : ∃ b, l[k]? = some b := ⟨l[k]'(by rw [← hn.out]; exact hlt), List.getElem?_eq_getElem _⟩
      have bi : (k : Int) < n := by omega
      have hcap := HC.out k b hb
      have hk' : k < (ByteArray.mk ⟨l⟩).size := by rw [hsz]; exact hlt
      have hby := byte_at hb hk'
      replace hb := Lib.hid hb
      go_wp2_with fail
      refine (cap_yes _ hcap _).mono ?_
      rintro e w1 ⟨rfl, rfl⟩
      go_wp2_with fail
      go_round
      case rel => exact ⟨k + 1, by omega, by go_num⟩
      case measure => simp [intOf]; omega
    · obtain rfl : k = n := by omega
      go_wp2
      go_ret
      exact ⟨rfl, rfl⟩
/-- The parts of a valid identifier. -/
structure Src4 (s0 s1 s2 s3 : List UInt8) : Prop where
  c0 : Code s0
  c1 : Code s1
  c2 : Code s2
  c3 : Code s3
  l0 : 1 ≤ s0.length ∧ s0.length ≤ 2
  l1 : 1 ≤ s1.length ∧ s1.length ≤ 5
  l2 : s2.length = 0 ∨ s2.length = 2
  l3 : s3.length = 3
theorem code_nil : Code [] := fun k b h => by simp at h
theorem src4_of {s0 s1 s2 s3 : List UInt8} (h0 : s0 ∈ Rec.strs0) (h1 : s1 ∈ Rec.strs1) (h2 : s2 ∈ Rec.strs2) (h3 : s3 ∈ Rec.strs3) : Src4 s0 s1 s2 s3 := by
  have a0 : ∀ s ∈ Rec.strs0, (∀ b ∈ s, cap (b.toNat : Int) = true) ∧ 1 ≤ s.length ∧ s.length ≤ 2 := by decide
  have a1 : ∀ s ∈ Rec.strs1, (∀ b ∈ s, cap (b.toNat : Int) = true) ∧ 1 ≤ s.length ∧ s.length ≤ 5 := by decide
  have a2 : ∀ s ∈ Rec.strs2, (∀ b ∈ s, cap (b.toNat : Int) = true) ∧ (s.length = 0 ∨ s.length = 2) := by decide
  have a3 : ∀ s ∈ Rec.strs3, (∀ b ∈ s, cap (b.toNat : Int) = true) ∧ s.length = 3 := by decide
  exact ⟨code_of (a0 _ h0).1, code_of (a1 _ h1).1, code_of (a2 _ h2).1, code_of (a3 _ h3).1, (a0 _ h0).2, (a1 _ h1).2, (a2 _ h2).2, (a3 _ h3).2⟩
set_option maxHeartbeats 2000000 in
theorem valid_yes {s0 s1 s2 s3 : List UInt8} (h : Src4 s0 s1 s2 s3) (w : World) :
    Calls Try.prog 42 #[.agg #[.string ⟨⟨s0⟩⟩, .string ⟨⟨s1⟩⟩, .string ⟨⟨s2⟩⟩, .string ⟨⟨s3⟩⟩]] w fun e w' => e = .returned (.bool true) ∧ Below w.heap.size w w' := by
  have I0 := Lib.hid fun w' => isCode_yes s0 s0.length rfl 1 2 (by have := h.l0; omega) (by have := h.l0; omega) (by have := h.l0; omega) h.c0 w'
  have I1 := Lib.hid fun w' => isCode_yes s1 s1.length rfl 1 5 (by have := h.l1; omega) (by have := h.l1; omega) (by have := h.l1; omega) h.c1 w'
  have I3 := Lib.hid fun w' => isCode_yes s3 s3.length rfl 3 3 (by have := h.l3; omega) (by have := h.l3; omega) (by have := h.l3; omega) h.c3 w'
  obtain ⟨wb, hwb⟩ : ∃ wb, wb = w.alloc (.cells #[.string ⟨⟨s0⟩⟩, .string ⟨⟨s1⟩⟩, .string ⟨⟨s2⟩⟩, .string ⟨⟨s3⟩⟩] 28) := ⟨_, rfl⟩
  have W1 := Lib.hid (show Below w.heap.size w wb by rw [hwb]; exact new_block _)
  obtain ⟨k0, k1, k2, k3⟩ := Rec.c4 (show wb.heap[w.heap.size]? = some (.cells #[.string ⟨⟨s0⟩⟩, .string ⟨⟨s1⟩⟩, .string ⟨⟨s2⟩⟩, .string ⟨⟨s3⟩⟩] 28 (0, 0)) by rw [hwb]; exact heap_alloc_new w _)
  rcases h.l2 with h2 | h2
  · obtain rfl : s2 = [] := List.length_eq_zero_iff.1 h2
    clear h h2
    replace hwb := Lib.hid hwb
    go_enter Try.func42, Try.ntmps42
    go_upto_region 1 with fail
    rw [← hwb.out]
    go_wp2_with (go_at_call 54; first
      | (with_reducible refine (I0.out _).mono ?_; rintro e w' ⟨rfl, rfl⟩)
      | (with_reducible refine (I1.out _).mono ?_; rintro e w' ⟨rfl, rfl⟩)
      | (with_reducible refine (I3.out _).mono ?_; rintro e w' ⟨rfl, rfl⟩))
    go_ret
    exact ⟨rfl, W1.out⟩
  · obtain ⟨x, y, rfl⟩ : ∃ x y, s2 = [x, y] := by
      match s2, h2 with
      | [x, y], _ => exact ⟨x, y, rfl⟩
    have I2 := Lib.hid fun w' => isCode_yes [x, y] 2 rfl 2 2 (by decide) (by decide) (by decide) h.c2 w'
    clear h h2
    replace hwb := Lib.hid hwb
    go_enter Try.func42, Try.ntmps42
    go_upto_region 1 with fail
    rw [← hwb.out]
    go_wp2_with (go_at_call 54; first
      | (with_reducible refine (I0.out _).mono ?_; rintro e w' ⟨rfl, rfl⟩)
      | (with_reducible refine (I1.out _).mono ?_; rintro e w' ⟨rfl, rfl⟩)
      | (with_reducible refine (I2.out _).mono ?_; rintro e w' ⟨rfl, rfl⟩)
      | (with_reducible refine (I3.out _).mono ?_; rintro e w' ⟨rfl, rfl⟩))
    go_ret
    exact ⟨rfl, W1.out⟩
end Sc
end Go.Proofs.Yticdjlpabknaiaa
