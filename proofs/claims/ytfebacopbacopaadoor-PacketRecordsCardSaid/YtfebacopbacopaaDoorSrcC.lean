/- Format, isPart of source. -/
import Derived.Test.YtfebacopbacopaaDoorSrcM
set_option linter.unusedVariables false
set_option linter.unusedSimpArgs false
namespace Go.Proofs.YtfebacopbacopaaDoor
open Go.RowKit Dice
namespace Sc
theorem hb {w w' : World} {b : Nat} {o : Obj} (h : Below w.heap.size w w') (e : w.heap[b]? = some o) : w'.heap[b]? = some o := (h.block b (Array.getElem?_eq_some_iff.1 e).1).trans e
/-- A byte of a pattern. -/
def Leg (b : UInt8) : Prop := cap (b.toNat : Int) = true ∨ b = 63 ∨ b = 42
set_option maxHeartbeats 2000000 in
theorem isPart_yes (l : List UInt8) (h9 : l.length ≤ 8) (h : ∀ b ∈ l, Leg b) (w : World) :
    Calls Tryd.prog 56 #[.string ⟨⟨l⟩⟩] w fun e w' => e = .returned (.bool true) ∧ w' = w := by
  obtain ⟨n, hn⟩ : ∃ n, n = l.length := ⟨_, rfl⟩
  rw [← hn] at h9
  have HC := Lib.hid h
  have hsz : (ByteArray.mk ⟨l⟩).size = n := by rw [hn]; rfl
  replace hn := Lib.hid hn
  clear h
  go_enter Tryd.func56, Tryd.ntmps56
  go_wp2_with fail
  go_loop [9] (fun i => ∃ k : Nat, k ≤ n ∧ i = .int .i64 k) (fun i => n - (intOf i).toNat)
  case atStart => exact ⟨0, Nat.zero_le _, rfl⟩
  case round =>
    obtain ⟨k, hk, rfl⟩ := hrel
    by_cases hlt : k < n
    · obtain ⟨b, hb⟩ : ∃ b, l[k]? = some b := ⟨l[k]'(by rw [← hn.out]; exact hlt), List.getElem?_eq_getElem _⟩
      have bi : (k : Int) < n := by omega
      have hcap := HC.out b (List.mem_of_getElem? hb)
      have hk' : k < (ByteArray.mk ⟨l⟩).size := by rw [hsz]; exact hlt
      have hby := byte_at hb hk'
      replace hb := Lib.hid hb
      rcases hcap with hc | rfl | rfl
      · go_wp2_with (go_at_call 73; with_reducible refine (cap_yes _ hc _).mono ?_; rintro e w1 ⟨rfl, rfl⟩)
        go_round
        case rel => exact ⟨k + 1, by omega, by go_num⟩
        case measure => simp [intOf]; omega
      · go_wp2_with (go_at_call 73; with_reducible refine (cap_any _ _).mono ?_; rintro e w1 ⟨rfl, rfl⟩)
        go_round
        case rel => exact ⟨k + 1, by omega, by go_num⟩
        case measure => simp [intOf]; omega
      · go_wp2_with (go_at_call 73; with_reducible refine (cap_any _ _).mono ?_; rintro e w1 ⟨rfl, rfl⟩)
        go_round
        case rel => exact ⟨k + 1, by omega, by go_num⟩
        case measure => simp [intOf]; omega
    · obtain rfl : k = n := by omega
      go_wp2
      go_ret
      exact ⟨rfl, rfl⟩
set_option maxHeartbeats 2000000 in
theorem format_any {s0 s1 s2 s3 : List UInt8} (h : Src4 s0 s1 s2 s3) (w : World) :
    Calls Tryd.prog 20 #[.agg #[.string ⟨⟨s0⟩⟩, .string ⟨⟨s1⟩⟩, .string ⟨⟨s2⟩⟩, .string ⟨⟨s3⟩⟩]] w fun e w' => e = .returned (.tuple #[.string ⟨⟨j4 s0 s1 s2 s3⟩⟩, .int .i64 0]) ∧ Below w.heap.size w w' := by
  have V := Lib.hid fun w' => valid_yes h w'
  have e : Hid ((ByteArray.mk ⟨j4 s0 s1 s2 s3⟩) = ⟨⟨s0⟩⟩ ++ ⟨#[46]⟩ ++ ⟨⟨s1⟩⟩ ++ ⟨#[46]⟩ ++ ⟨⟨s2⟩⟩ ++ ⟨#[46]⟩ ++ ⟨⟨s3⟩⟩) := Lib.hid (by
    apply ByteArray.ext
    apply Array.ext'
    simp [j4])
  rw [e.out]
  obtain ⟨wb, hwb⟩ : ∃ wb, wb = w.alloc (.cells #[.string ⟨⟨s0⟩⟩, .string ⟨⟨s1⟩⟩, .string ⟨⟨s2⟩⟩, .string ⟨⟨s3⟩⟩] 28) := ⟨_, rfl⟩
  have W1 := Lib.hid (show Below w.heap.size w wb by rw [hwb]; exact new_block _)
  have K := Lib.hid (show wb.heap[w.heap.size]? = some (.cells #[.string ⟨⟨s0⟩⟩, .string ⟨⟨s1⟩⟩, .string ⟨⟨s2⟩⟩, .string ⟨⟨s3⟩⟩] 28 (0, 0)) by rw [hwb]; exact heap_alloc_new w _)
  obtain ⟨k0, k1, k2, k3⟩ := Rec.c4 K.out
  have hl0 := h.l0
  have hl1 := h.l1
  have hl2 := h.l2
  have hl3 := h.l3
  have q0 : ¬ (9223372036854775807 < s0.length + 1 + s1.length) := by omega
  have q1 : ¬ (9223372036854775807 < s0.length + 1 + s1.length + 1) := by omega
  have q2 : ¬ (9223372036854775807 < s0.length + 1 + s1.length + 1 + s2.length) := by omega
  have q3 : ¬ (9223372036854775807 < s0.length + 1 + s1.length + 1 + s2.length + 1) := by omega
  have q4 : ¬ (9223372036854775807 < s0.length + 1 + s1.length + 1 + s2.length + 1 + s3.length) := by omega
  replace hwb := Lib.hid hwb
  clear h e hl0 hl1 hl2 hl3
  go_enter Tryd.func20, Tryd.ntmps20
  go_upto_region 1 with fail
  rw [← hwb.out]
  go_upto_region 3 with (go_at_call 36; refine (V.out _).mono ?_; rintro e w1 ⟨rfl, b1⟩)
  have K1 := Lib.hid (hb b1 K.out)
  obtain ⟨m0, m1, m2, m3⟩ := Rec.c4 K1.out
  go_wp2_with fail
  refine bodyPost_ret (results_tmp2 rfl _ _ _) rfl ?_
  exact ⟨rfl, Buf.then_ W1.out b1⟩
end Sc
end Go.Proofs.YtfebacopbacopaaDoor
