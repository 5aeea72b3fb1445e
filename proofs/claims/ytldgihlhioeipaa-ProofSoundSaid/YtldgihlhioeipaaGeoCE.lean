/- GeoCE: texts joined. -/
import Derived.Test.YtldgihlhioeipaaGeoEnds
import Derived.RegionTactic
/- Contracts of package geometry: ValidBox, Points. -/
namespace Go.Proofs.Ytldgihlhioeipaa
open Go.RowKit
namespace Geo
/-- A valid box. -/
structure BV (a b c d e f : Int) : Prop where
  lo : PV a b c
  hi : PV d e f
  x : a ≤ d
  y : b ≤ e
  z : c ≤ f
set_option maxHeartbeats 1000000 in
theorem validBox_yes (a b c d e f : Int) (h : BV a b c d e f) (w : World) :
    Calls Try.prog 68 #[.agg #[.int .i64 a, .int .i64 b, .int .i64 c, .int .i64 d, .int .i64 e, .int .i64 f]] w fun r w' => r = .returned (.bool true) ∧ Below w.heap.size w w' := by
  obtain ⟨hl, hh, hx, hy, hz⟩ := h
  have V1 := Lib.hid (valid_yes a b c hl)
  have V2 := Lib.hid (valid_yes d e f hh)
  clear hl hh
  have g1 := Lib.hid (blk_new w (.cells #[.int .i64 a, .int .i64 b, .int .i64 c, .int .i64 d, .int .i64 e, .int .i64 f] 26))
  go_enter Try.func68, Try.ntmps68
  go_wp2_with fail
  refine (ends_any a b c d e f _).mono ?_
  rintro r w1 ⟨rfl, hb⟩
  replace g1 := Lib.hid (blk_alloc (blk_alloc (blk_b hb g1.out) (.cells #[.int .i64 a, .int .i64 b, .int .i64 c] 95)) (.cells #[.int .i64 d, .int .i64 e, .int .i64 f] 95))
  have g2 := Lib.hid (blk_alloc (blk_new w1 (.cells #[.int .i64 a, .int .i64 b, .int .i64 c] 95)) (.cells #[.int .i64 d, .int .i64 e, .int .i64 f] 95))
  have g3 := Lib.hid (blk_new1 w1 (.cells #[.int .i64 a, .int .i64 b, .int .i64 c] 95) (.cells #[.int .i64 d, .int .i64 e, .int .i64 f] 95))
  have hW : Hid (Below w.heap.size w ((w1.alloc (.cells #[.int .i64 a, .int .i64 b, .int .i64 c] 95)).alloc (.cells #[.int .i64 d, .int .i64 e, .int .i64 f] 95))) := Lib.hid (Buf.then_ (Buf.then_ (Buf.then_ (new_block _) hb) (new_block _)) (new_block _))
  clear hb
  go_wp2_with fail
  go_loopw [11] (fun i wr => ∃ k : Nat, k ≤ 3 ∧ i = .int .i64 k ∧ Hid (wr.heap[w.heap.size]? = some (.cells #[.int .i64 a, .int .i64 b, .int .i64 c, .int .i64 d, .int .i64 e, .int .i64 f] 26 (0, 0))) ∧ Hid (wr.heap[w1.heap.size]? = some (.cells #[.int .i64 a, .int .i64 b, .int .i64 c] 95 (0, 0))) ∧ Hid (wr.heap[w1.heap.size + 1]? = some (.cells #[.int .i64 d, .int .i64 e, .int .i64 f] 95 (0, 0))) ∧ Hid (Below w.heap.size w wr)) (fun i _ => (3 - intOf i).toNat)
  case atStart => exact ⟨0, by omega, rfl, g1, g2, g3, hW⟩
  case round =>
    clear g1 g2 g3 hW
    obtain ⟨k, hk, rfl, g1, g2, g3, hW⟩ := hrel
    obtain ⟨a1, a2, a3, a4, a5, a6⟩ := cells6 g1.out
    obtain ⟨b1, b2, b3, _, _, _⟩ := cells3 g2.out
    obtain ⟨c1, c2, c3, _, _, _⟩ := cells3 g3.out
    by_cases h0 : k = 0
    · subst h0
      go_wp2
      go_quiet (fail)
      go_wp2
      go_roundw
      case rel => exact ⟨1, by omega, rfl, g1, g2, g3, Lib.hid (Buf.below_drewN hW.out _)⟩
      case measure => simp [intOf]
    by_cases h1 : k = 1
    · subst h1
      go_wp2
      go_quiet (fail)
      go_wp2
      go_roundw
      case rel => exact ⟨2, by omega, rfl, g1, g2, g3, Lib.hid (Buf.below_drewN hW.out _)⟩
      case measure => simp [intOf]
    by_cases h2 : k = 2
    · subst h2
      go_wp2
      go_quiet (fail)
      go_wp2
      go_roundw
      case rel => exact ⟨3, by omega, rfl, g1, g2, g3, Lib.hid (Buf.below_drewN hW.out _)⟩
      case measure => simp [intOf]
    obtain rfl : k = 3 := by omega
    clear b1 b2 b3 c1 c2 c3 g2 g3
    go_wp2_with fail
    with_reducible refine (V1.out _).mono ?_
    rintro r w2 ⟨rfl, hb⟩
    obtain ⟨d1, d2, d3, d4, d5, d6⟩ := cells6 (blk_b hb g1.out)
    have hW2 := Lib.hid (Buf.then_ hW.out hb)
    clear hb hW a1 a2 a3 a4 a5 a6
    go_wp2_with fail
    with_reducible refine (V2.out _).mono ?_
    rintro r w3 ⟨rfl, hb⟩
    have hW3 := Lib.hid (Buf.then_ hW2.out hb)
    clear hb hW2
    go_wp2
    go_ret
    exact ⟨rfl, hW3.out⟩
end Geo
end Go.Proofs.Ytldgihlhioeipaa

/- Contracts of package geometry at the example of the chapter. -/
namespace Go.Proofs.Ytldgihlhioeipaa
open Go.RowKit
namespace Geo
theorem bv : BV 0 0 0 9 4 4 := ⟨⟨by decide, by decide, by decide, by decide, by decide, by decide⟩, ⟨by decide, by decide, by decide, by decide, by decide, by decide⟩, by decide, by decide, by decide⟩
theorem pv : PV 12 2 0 := ⟨by decide, by decide, by decide, by decide, by decide, by decide⟩
end Geo
end Go.Proofs.Ytldgihlhioeipaa

/- Contracts of package geometry at the example of the chapter: position, Center. -/
namespace Go.Proofs.Ytldgihlhioeipaa
open Go.RowKit
namespace Geo
set_option maxRecDepth 100000 in
theorem position_any (x y z : Int) (w : World) :
    Calls Try.prog 55 #[.agg #[.int .i64 x, .int .i64 y, .int .i64 z]] w fun e w' => e = .returned (.agg #[.int .i64 x, .int .i64 y, .int .i64 z]) ∧ Below w.heap.size w w' := by
  go_enter Try.func55, Try.ntmps55
  go_wp2
  exact bodyPost_ret (results_cell_row rfl _ _ (w.heap.size + 1) _ _ _ _ rfl (blk_new1 _ _ _) rfl (by rfl) rfl) rfl ⟨rfl, ((Below.refl _ _).alloc (Nat.le_refl _) _).alloc (by simp) _⟩
end Geo
end Go.Proofs.Ytldgihlhioeipaa
