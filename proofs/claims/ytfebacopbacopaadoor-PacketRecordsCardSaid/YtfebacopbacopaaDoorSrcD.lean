/- patternParts, matchParts, Match, Parse of source. -/
import Derived.Test.YtfebacopbacopaaDoorSrcC
set_option linter.unusedVariables false
set_option linter.unusedSimpArgs false
namespace Go.Proofs.YtfebacopbacopaaDoor
open Go.RowKit Dice
namespace Sc
/-- A part of a pattern. -/
structure Part (l : List UInt8) : Prop where
  len : l.length ≤ 8
  leg : ∀ b ∈ l, Leg b
theorem Part.no_dot {l : List UInt8} (h : Part l) : (46 : UInt8) ∉ l := fun hb => by
  rcases h.leg _ hb with h | h | h
  · exact absurd h (by decide)
  · exact absurd h (by decide)
  · exact absurd h (by decide)
theorem part_code {l : List UInt8} (h : Code l) (h8 : l.length ≤ 8) : Part l := ⟨h8, fun b hb => .inl (h.byte hb)⟩
theorem part_star : Part [42] := ⟨by decide, fun b hb => by simp at hb; subst hb; exact .inr (.inr rfl)⟩
/-- A row of four strings. -/
def At4 (w : World) (g : Nat) (a b c d : List UInt8) : Prop := w.heap[g]? = some (.cells #[.string ⟨⟨a⟩⟩, .string ⟨⟨b⟩⟩, .string ⟨⟨c⟩⟩, .string ⟨⟨d⟩⟩] 9 (0, 0))
theorem At4.next {w w' : World} {g : Nat} {a b c d : List UInt8} (h : At4 w g a b c d) (k : Below w.heap.size w w') : At4 w' g a b c d := hb k h
theorem j4_len {a b c d : List UInt8} (ha : a.length ≤ 8) (hb : b.length ≤ 8) (hc : c.length ≤ 8) (hd : d.length ≤ 8) : (j4 a b c d).length < 4294967281 := by
  simp [j4]; omega
set_option maxHeartbeats 2000000 in
theorem parts_any {a b c d : List UInt8} (ha : Part a) (hb : Part b) (hc : Part c) (hd : Part d) (w : World) (hm : Mx w) :
    Calls Tryd.prog 38 #[.string ⟨⟨j4 a b c d⟩⟩] w fun e w' =>
      e = .returned (.tuple #[.slice (some ⟨w.heap.size, 0, none⟩) 4 4, .bool true]) ∧ At4 w' w.heap.size a b c d ∧ Below w.heap.size w w' := by
  have S := Lib.hid (split_any ha.no_dot hb.no_dot hc.no_dot hd.no_dot (j4_len ha.len hb.len hc.len hd.len) w hm)
  obtain ⟨w1, hw1⟩ : ∃ w1, w1 = w.alloc (.cells #[.string ⟨⟨a⟩⟩, .string ⟨⟨b⟩⟩, .string ⟨⟨c⟩⟩, .string ⟨⟨d⟩⟩] 9) := ⟨_, rfl⟩
  rw [← hw1] at S
  have W1 := Lib.hid (show Below w.heap.size w w1 by rw [hw1]; exact new_block _)
  have K := Lib.hid (show At4 w1 w.heap.size a b c d by rw [hw1]; exact heap_alloc_new w _)
  have C := Rec.c4 K.out
  have P : Hid (∀ k, k < 4 → ∃ l, w1.cell? ⟨w.heap.size, k, none⟩ = some (.string ⟨⟨l⟩⟩) ∧ Part l) := Lib.hid (fun k hk => by
    match k, hk with
    | 0, _ => exact ⟨a, C.1, ha⟩
    | 1, _ => exact ⟨b, C.2.1, hb⟩
    | 2, _ => exact ⟨c, C.2.2.1, hc⟩
    | 3, _ => exact ⟨d, C.2.2.2, hd⟩)
  clear C hw1 ha hb hc hd hm
  go_enter Tryd.func38, Tryd.ntmps38
  go_upto_region 4 with (go_at_call 37; refine (S.out).mono ?_; rintro e w2 ⟨rfl, rfl⟩)
  go_wp2_with fail
  go_loop [14] (fun i => ∃ k : Nat, k ≤ 4 ∧ i = .int .i64 k) (fun i => 4 - (intOf i).toNat)
  case atStart => exact ⟨0, by omega, rfl⟩
  case round =>
    obtain ⟨k, hk, rfl⟩ := hrel
    by_cases hlt : k < 4
    · obtain ⟨l, hl, hp⟩ := P.out k hlt
      have bi : (k : Int) < 4 := by omega
      have hq := Lib.hid fun w' => isPart_yes l hp.len hp.leg w'
      go_wp2_with (go_at_call 56; with_reducible refine (hq.out _).mono ?_; rintro e w2 ⟨rfl, rfl⟩)
      go_round
      case rel => exact ⟨k + 1, by omega, by go_num⟩
      case measure => simp [intOf]; omega
    · obtain rfl : k = 4 := by omega
      go_wp2
      refine bodyPost_ret (results_tmp2 rfl _ _ _) rfl ?_
      exact ⟨rfl, K.out, W1.out⟩
end Sc
end Go.Proofs.YtfebacopbacopaaDoor
