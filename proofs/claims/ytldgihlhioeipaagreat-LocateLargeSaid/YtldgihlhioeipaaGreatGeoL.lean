/- Contracts of package geometry: Hull, whatever the valid boxes. -/
import Derived.Test.YtldgihlhioeipaaGreatGeoK
import Derived.Test.YtldgihlhioeipaaGreatGeoE
import Derived.BigRegion
namespace Go.Proofs.YtldgihlhioeipaaGreat
open Go.RowKit
namespace Geo
theorem s1_0 {w : World} {g : Nat} {u v r x : Value} {t : TypeId} (h : w.heap[g]? = some (.cells #[u, v, r] t (0, 0))) : (w.setCell ⟨g, 0, none⟩ x).heap[g]? = some (.cells #[x, v, r] t (0, 0)) := (heap_setCell_same w g 0 _ _ x h).trans rfl
theorem s1_1 {w : World} {g : Nat} {u v r x : Value} {t : TypeId} (h : w.heap[g]? = some (.cells #[u, v, r] t (0, 0))) : (w.setCell ⟨g, 1, none⟩ x).heap[g]? = some (.cells #[u, x, r] t (0, 0)) := (heap_setCell_same w g 1 _ _ x h).trans rfl
theorem s1_2 {w : World} {g : Nat} {u v r x : Value} {t : TypeId} (h : w.heap[g]? = some (.cells #[u, v, r] t (0, 0))) : (w.setCell ⟨g, 2, none⟩ x).heap[g]? = some (.cells #[u, v, x] t (0, 0)) := (heap_setCell_same w g 2 _ _ x h).trans rfl
theorem s1_o {w : World} {g i k : Nat} {x : Value} {o : Obj} (hk : k ≠ g) (h : w.heap[k]? = some o) : (w.setCell ⟨g, i, none⟩ x).heap[k]? = some o := (Below.heap_setCell w _ _ k hk).trans h
theorem s1_b {B : Nat} {a w : World} {g i : Nat} {x : Value} (hg : B ≤ g) (h : Below B a w) : Below B a (w.setCell ⟨g, i, none⟩ x) := h.setCell hg x
def hLow (a b c a' b' c' : Int) (k : Nat) : Array Value := match k with | 0 => #[.int .i64 a, .int .i64 b, .int .i64 c] | 1 => #[.int .i64 (min a a'), .int .i64 b, .int .i64 c] | 2 => #[.int .i64 (min a a'), .int .i64 (min b b'), .int .i64 c] | _ => #[.int .i64 (min a a'), .int .i64 (min b b'), .int .i64 (min c c')]
def hHigh (d e f d' e' f' : Int) (k : Nat) : Array Value := match k with | 0 => #[.int .i64 d, .int .i64 e, .int .i64 f] | 1 => #[.int .i64 (max d d'), .int .i64 e, .int .i64 f] | 2 => #[.int .i64 (max d d'), .int .i64 (max e e'), .int .i64 f] | _ => #[.int .i64 (max d d'), .int .i64 (max e e'), .int .i64 (max f f')]
set_option maxHeartbeats 8000000 in
set_option maxRecDepth 100000 in
theorem hull_yes (a b c d e f a' b' c' d' e' f' : Int) (h1 : BV a b c d e f) (h2 : BV a' b' c' d' e' f') (w : World) :
    Calls Tryz.prog 21 #[.agg #[.int .i64 a, .int .i64 b, .int .i64 c, .int .i64 d, .int .i64 e, .int .i64 f], .agg #[.int .i64 a', .int .i64 b', .int .i64 c', .int .i64 d', .int .i64 e', .int .i64 f']] w fun r w' => r = .returned (.agg #[.int .i64 ((min a a')), .int .i64 ((min b b')), .int .i64 ((min c c')), .int .i64 ((max d d')), .int .i64 ((max e e')), .int .i64 ((max f f'))]) ∧ Below w.heap.size w w' := by
  have V1 := Lib.hid (validBox_yes a b c d e f h1)
  have V2 := Lib.hid (validBox_yes a' b' c' d' e' f' h2)
  obtain ⟨⟨ax0, ax1, ay0, ay1, az0, az1⟩, ⟨dx0, dx1, dy0, dy1, dz0, dz1⟩, hx, hy, hz⟩ := h1
  obtain ⟨⟨ax0', ax1', ay0', ay1', az0', az1'⟩, ⟨dx0', dx1', dy0', dy1', dz0', dz1'⟩, hx', hy', hz'⟩ := h2
  have p1 := Lib.hid (blk_alloc (blk_alloc (blk_new w (.cells #[.int .i64 a, .int .i64 b, .int .i64 c, .int .i64 d, .int .i64 e, .int .i64 f] 28)) (.cells #[.int .i64 a', .int .i64 b', .int .i64 c', .int .i64 d', .int .i64 e', .int .i64 f'] 28)) (.cells #[.int .i64 0, .int .i64 0, .int .i64 0, .int .i64 0, .int .i64 0, .int .i64 0] 28))
  have p2 := Lib.hid (blk_alloc (blk_new1 w (.cells #[.int .i64 a, .int .i64 b, .int .i64 c, .int .i64 d, .int .i64 e, .int .i64 f] 28) (.cells #[.int .i64 a', .int .i64 b', .int .i64 c', .int .i64 d', .int .i64 e', .int .i64 f'] 28)) (.cells #[.int .i64 0, .int .i64 0, .int .i64 0, .int .i64 0, .int .i64 0, .int .i64 0] 28))
  have p3 := Lib.hid (blk_new2 w (.cells #[.int .i64 a, .int .i64 b, .int .i64 c, .int .i64 d, .int .i64 e, .int .i64 f] 28) (.cells #[.int .i64 a', .int .i64 b', .int .i64 c', .int .i64 d', .int .i64 e', .int .i64 f'] 28) (.cells #[.int .i64 0, .int .i64 0, .int .i64 0, .int .i64 0, .int .i64 0, .int .i64 0] 28))
  have hA : Hid (Below w.heap.size w (((w.alloc (.cells #[.int .i64 a, .int .i64 b, .int .i64 c, .int .i64 d, .int .i64 e, .int .i64 f] 28)).alloc (.cells #[.int .i64 a', .int .i64 b', .int .i64 c', .int .i64 d', .int .i64 e', .int .i64 f'] 28)).alloc (.cells #[.int .i64 0, .int .i64 0, .int .i64 0, .int .i64 0, .int .i64 0, .int .i64 0] 28))) := Lib.hid (Buf.then_ (Buf.then_ (new_block _) (new_block _)) (new_block _))
  go_enter Tryz.func21, Tryz.ntmps21
  go_wp2_with fail
  with_reducible refine (V1.out _).mono ?_
  rintro r w1 ⟨rfl, hb⟩
  replace p1 := Lib.hid (blk_b hb p1.out)
  replace p2 := Lib.hid (blk_b hb p2.out)
  replace p3 := Lib.hid (blk_b hb p3.out)
  replace hA := Lib.hid (Buf.then_ hA.out hb)
  clear hb
  obtain ⟨u1, u2, u3, u4, u5, u6⟩ := cells6 p1.out
  obtain ⟨v1, v2, v3, v4, v5, v6⟩ := cells6 p2.out
  go_wp2_with fail
  with_reducible refine (V2.out _).mono ?_
  rintro r w2 ⟨rfl, hb⟩
  replace p1 := Lib.hid (blk_b hb p1.out)
  replace p2 := Lib.hid (blk_b hb p2.out)
  replace p3 := Lib.hid (blk_b hb p3.out)
  replace hA := Lib.hid (Buf.then_ hA.out hb)
  clear hb u1 u2 u3 u4 u5 u6 v1 v2 v3 v4 v5 v6
  obtain ⟨u1, u2, u3, u4, u5, u6⟩ := cells6 p1.out
  go_wp2_with fail
  refine (ends_any a b c d e f _).mono ?_
  rintro r w3 ⟨rfl, hb⟩
  have hle := Lib.hid (Array.getElem?_eq_some_iff.1 (blk_b hb p3.out)).1
  replace p1 := Lib.hid (blk_alloc (blk_alloc (blk_b hb p1.out) (.cells #[.int .i64 a, .int .i64 b, .int .i64 c] 89)) (.cells #[.int .i64 d, .int .i64 e, .int .i64 f] 89))
  replace p2 := Lib.hid (blk_alloc (blk_alloc (blk_b hb p2.out) (.cells #[.int .i64 a, .int .i64 b, .int .i64 c] 89)) (.cells #[.int .i64 d, .int .i64 e, .int .i64 f] 89))
  replace p3 := Lib.hid (blk_alloc (blk_alloc (blk_b hb p3.out) (.cells #[.int .i64 a, .int .i64 b, .int .i64 c] 89)) (.cells #[.int .i64 d, .int .i64 e, .int .i64 f] 89))
  have g1 := Lib.hid (blk_alloc (blk_new w3 (.cells #[.int .i64 a, .int .i64 b, .int .i64 c] 89)) (.cells #[.int .i64 d, .int .i64 e, .int .i64 f] 89))
  have g2 := Lib.hid (blk_new1 w3 (.cells #[.int .i64 a, .int .i64 b, .int .i64 c] 89) (.cells #[.int .i64 d, .int .i64 e, .int .i64 f] 89))
  replace hA : Hid (Below w.heap.size w ((w3.alloc (.cells #[.int .i64 a, .int .i64 b, .int .i64 c] 89)).alloc (.cells #[.int .i64 d, .int .i64 e, .int .i64 f] 89))) := Lib.hid (Buf.then_ (Buf.then_ (Buf.then_ hA.out hb) (new_block _)) (new_block _))
  clear hb u1 u2 u3 u4 u5 u6
  obtain ⟨v1, v2, v3, v4, v5, v6⟩ := cells6 p2.out
  go_wp2_with fail
  refine (ends_any a' b' c' d' e' f' _).mono ?_
  rintro r w4 ⟨rfl, hb⟩
  replace p1 := Lib.hid (blk_alloc (blk_alloc (blk_b hb p1.out) (.cells #[.int .i64 a', .int .i64 b', .int .i64 c'] 89)) (.cells #[.int .i64 d', .int .i64 e', .int .i64 f'] 89))
  replace p2 := Lib.hid (blk_alloc (blk_alloc (blk_b hb p2.out) (.cells #[.int .i64 a', .int .i64 b', .int .i64 c'] 89)) (.cells #[.int .i64 d', .int .i64 e', .int .i64 f'] 89))
  replace p3 := Lib.hid (blk_alloc (blk_alloc (blk_b hb p3.out) (.cells #[.int .i64 a', .int .i64 b', .int .i64 c'] 89)) (.cells #[.int .i64 d', .int .i64 e', .int .i64 f'] 89))
  replace g1 := Lib.hid (blk_alloc (blk_alloc (blk_b hb g1.out) (.cells #[.int .i64 a', .int .i64 b', .int .i64 c'] 89)) (.cells #[.int .i64 d', .int .i64 e', .int .i64 f'] 89))
  replace g2 := Lib.hid (blk_alloc (blk_alloc (blk_b hb g2.out) (.cells #[.int .i64 a', .int .i64 b', .int .i64 c'] 89)) (.cells #[.int .i64 d', .int .i64 e', .int .i64 f'] 89))
  have g3 := Lib.hid (blk_alloc (blk_new w4 (.cells #[.int .i64 a', .int .i64 b', .int .i64 c'] 89)) (.cells #[.int .i64 d', .int .i64 e', .int .i64 f'] 89))
  have g4 := Lib.hid (blk_new1 w4 (.cells #[.int .i64 a', .int .i64 b', .int .i64 c'] 89) (.cells #[.int .i64 d', .int .i64 e', .int .i64 f'] 89))
  replace hA : Hid (Below w.heap.size w ((w4.alloc (.cells #[.int .i64 a', .int .i64 b', .int .i64 c'] 89)).alloc (.cells #[.int .i64 d', .int .i64 e', .int .i64 f'] 89))) := Lib.hid (Buf.then_ (Buf.then_ (Buf.then_ hA.out hb) (new_block _)) (new_block _))
  have hlt : Hid (w3.heap.size + 1 < w4.heap.size) := Lib.hid (by have := hb.size; simp at this; omega)
  clear hb v1 v2 v3 v4 v5 v6 V1 V2
  go_wp2_with fail
  go_loopw [29] (fun i wr => ∃ k : Nat, k ≤ 3 ∧ i = .int .i64 k ∧ Hid (wr.heap[w.heap.size + 1 + 1]? = some (.cells #[.int .i64 0, .int .i64 0, .int .i64 0, .int .i64 0, .int .i64 0, .int .i64 0] 28 (0, 0))) ∧ Hid (wr.heap[w3.heap.size]? = some (.cells (hLow a b c a' b' c' k) 89 (0, 0))) ∧ Hid (wr.heap[w3.heap.size + 1]? = some (.cells (hHigh d e f d' e' f' k) 89 (0, 0))) ∧ Hid (wr.heap[w4.heap.size]? = some (.cells #[.int .i64 a', .int .i64 b', .int .i64 c'] 89 (0, 0))) ∧ Hid (wr.heap[w4.heap.size + 1]? = some (.cells #[.int .i64 d', .int .i64 e', .int .i64 f'] 89 (0, 0))) ∧ Hid (Below w.heap.size w wr)) (fun i _ => (3 - intOf i).toNat)
  case atStart => exact ⟨0, by omega, rfl, p3, g1, g2, g3, g4, hA⟩
  case round =>
    clear g1 g2 g3 g4 hA p1 p2 p3
    obtain ⟨k, hk, rfl, p3, g1, g2, g3, g4, hA⟩ := hrel
    have hlt' := hlt.out
    have hle' := hle.out
    obtain ⟨r1, r2, r3, _, _, _⟩ := cells3 g3.out
    obtain ⟨s1, s2, s3, _, _, _⟩ := cells3 g4.out
    by_cases h0 : k = 0
    · subst h0
      replace g1 : Hid (wr.heap[w3.heap.size]? = some (.cells #[.int .i64 a, .int .i64 b, .int .i64 c] 89 (0, 0))) := g1
      replace g2 : Hid (wr.heap[w3.heap.size + 1]? = some (.cells #[.int .i64 d, .int .i64 e, .int .i64 f] 89 (0, 0))) := g2
      obtain ⟨m1, m2, m3, f1, f2, f3⟩ := cells3 g1.out
      obtain ⟨n1, n2, n3, f4, f5, f6⟩ := cells3 g2.out
      go_wp2_with fail
      go_region
      all_goals
        go_wp2
        go_roundw
        case rel =>
          refine ⟨1, by omega, rfl, Lib.hid ?_, Lib.hid ?_, Lib.hid ?_, Lib.hid ?_, Lib.hid ?_, Lib.hid ?_⟩
          · (repeat (with_reducible first | apply p3.out | apply g1.out | apply g2.out | apply g3.out | apply g4.out | apply s1_0 | apply s1_1 | apply s1_2 | (apply s1_o; · omega) | apply blk_drew))
          · show _ = some (Obj.cells #[.int .i64 (min a a'), .int .i64 b, .int .i64 c] _ _)
            (repeat (with_reducible first | apply p3.out | apply g1.out | apply g2.out | apply g3.out | apply g4.out | apply s1_0 | apply s1_1 | apply s1_2 | (apply s1_o; · omega) | apply blk_drew))
          · show _ = some (Obj.cells #[.int .i64 (max d d'), .int .i64 e, .int .i64 f] _ _)
            (repeat (with_reducible first | apply p3.out | apply g1.out | apply g2.out | apply g3.out | apply g4.out | apply s1_0 | apply s1_1 | apply s1_2 | (apply s1_o; · omega) | apply blk_drew))
          · (repeat (with_reducible first | apply p3.out | apply g1.out | apply g2.out | apply g3.out | apply g4.out | apply s1_0 | apply s1_1 | apply s1_2 | (apply s1_o; · omega) | apply blk_drew))
          · (repeat (with_reducible first | apply p3.out | apply g1.out | apply g2.out | apply g3.out | apply g4.out | apply s1_0 | apply s1_1 | apply s1_2 | (apply s1_o; · omega) | apply blk_drew))
          · (repeat (with_reducible first | apply hA.out | (apply s1_b; · omega) | apply Below.drew))
        case measure => simp [intOf]
    by_cases h1 : k = 1
    · subst h1
      replace g1 : Hid (wr.heap[w3.heap.size]? = some (.cells #[.int .i64 (min a a'), .int .i64 b, .int .i64 c] 89 (0, 0))) := g1
      replace g2 : Hid (wr.heap[w3.heap.size + 1]? = some (.cells #[.int .i64 (max d d'), .int .i64 e, .int .i64 f] 89 (0, 0))) := g2
      obtain ⟨m1, m2, m3, f1, f2, f3⟩ := cells3 g1.out
      obtain ⟨n1, n2, n3, f4, f5, f6⟩ := cells3 g2.out
      go_wp2_with fail
      go_region
      all_goals
        go_wp2
        go_roundw
        case rel =>
          refine ⟨2, by omega, rfl, Lib.hid ?_, Lib.hid ?_, Lib.hid ?_, Lib.hid ?_, Lib.hid ?_, Lib.hid ?_⟩
          · (repeat (with_reducible first | apply p3.out | apply g1.out | apply g2.out | apply g3.out | apply g4.out | apply s1_0 | apply s1_1 | apply s1_2 | (apply s1_o; · omega) | apply blk_drew))
          · show _ = some (Obj.cells #[.int .i64 (min a a'), .int .i64 (min b b'), .int .i64 c] _ _)
            (repeat (with_reducible first | apply p3.out | apply g1.out | apply g2.out | apply g3.out | apply g4.out | apply s1_0 | apply s1_1 | apply s1_2 | (apply s1_o; · omega) | apply blk_drew))
          · show _ = some (Obj.cells #[.int .i64 (max d d'), .int .i64 (max e e'), .int .i64 f] _ _)
            (repeat (with_reducible first | apply p3.out | apply g1.out | apply g2.out | apply g3.out | apply g4.out | apply s1_0 | apply s1_1 | apply s1_2 | (apply s1_o; · omega) | apply blk_drew))
          · (repeat (with_reducible first | apply p3.out | apply g1.out | apply g2.out | apply g3.out | apply g4.out | apply s1_0 | apply s1_1 | apply s1_2 | (apply s1_o; · omega) | apply blk_drew))
          · (repeat (with_reducible first | apply p3.out | apply g1.out | apply g2.out | apply g3.out | apply g4.out | apply s1_0 | apply s1_1 | apply s1_2 | (apply s1_o; · omega) | apply blk_drew))
          · (repeat (with_reducible first | apply hA.out | (apply s1_b; · omega) | apply Below.drew))
        case measure => simp [intOf]
    by_cases h2 : k = 2
    · subst h2
      replace g1 : Hid (wr.heap[w3.heap.size]? = some (.cells #[.int .i64 (min a a'), .int .i64 (min b b'), .int .i64 c] 89 (0, 0))) := g1
      replace g2 : Hid (wr.heap[w3.heap.size + 1]? = some (.cells #[.int .i64 (max d d'), .int .i64 (max e e'), .int .i64 f] 89 (0, 0))) := g2
      obtain ⟨m1, m2, m3, f1, f2, f3⟩ := cells3 g1.out
      obtain ⟨n1, n2, n3, f4, f5, f6⟩ := cells3 g2.out
      go_wp2_with fail
      go_region
      all_goals
        go_wp2
        go_roundw
        case rel =>
          refine ⟨3, by omega, rfl, Lib.hid ?_, Lib.hid ?_, Lib.hid ?_, Lib.hid ?_, Lib.hid ?_, Lib.hid ?_⟩
          · (repeat (with_reducible first | apply p3.out | apply g1.out | apply g2.out | apply g3.out | apply g4.out | apply s1_0 | apply s1_1 | apply s1_2 | (apply s1_o; · omega) | apply blk_drew))
          · show _ = some (Obj.cells #[.int .i64 (min a a'), .int .i64 (min b b'), .int .i64 (min c c')] _ _)
            (repeat (with_reducible first | apply p3.out | apply g1.out | apply g2.out | apply g3.out | apply g4.out | apply s1_0 | apply s1_1 | apply s1_2 | (apply s1_o; · omega) | apply blk_drew))
          · show _ = some (Obj.cells #[.int .i64 (max d d'), .int .i64 (max e e'), .int .i64 (max f f')] _ _)
            (repeat (with_reducible first | apply p3.out | apply g1.out | apply g2.out | apply g3.out | apply g4.out | apply s1_0 | apply s1_1 | apply s1_2 | (apply s1_o; · omega) | apply blk_drew))
          · (repeat (with_reducible first | apply p3.out | apply g1.out | apply g2.out | apply g3.out | apply g4.out | apply s1_0 | apply s1_1 | apply s1_2 | (apply s1_o; · omega) | apply blk_drew))
          · (repeat (with_reducible first | apply p3.out | apply g1.out | apply g2.out | apply g3.out | apply g4.out | apply s1_0 | apply s1_1 | apply s1_2 | (apply s1_o; · omega) | apply blk_drew))
          · (repeat (with_reducible first | apply hA.out | (apply s1_b; · omega) | apply Below.drew))
        case measure => simp [intOf]
    obtain rfl : k = 3 := by omega
    replace g1 : Hid (wr.heap[w3.heap.size]? = some (.cells #[.int .i64 (min a a'), .int .i64 (min b b'), .int .i64 (min c c')] 89 (0, 0))) := g1
    replace g2 : Hid (wr.heap[w3.heap.size + 1]? = some (.cells #[.int .i64 (max d d'), .int .i64 (max e e'), .int .i64 (max f f')] 89 (0, 0))) := g2
    obtain ⟨m1, m2, m3, f1, f2, f3⟩ := cells3 g1.out
    obtain ⟨n1, n2, n3, f4, f5, f6⟩ := cells3 g2.out
    clear r1 r2 r3 s1 s2 s3 g3 g4
    go_wp2_with fail
    have e1 : w.heap.size + 1 + 1 ≠ w3.heap.size := by omega
    have e2 : w.heap.size + 1 + 1 ≠ w3.heap.size + 1 := by omega
    clear hlt' hle'
    go_region_held3 (fun w' => w'.cell? ⟨w3.heap.size, 0, none⟩ = some (.int .i64 (min a a')) ∧ w'.cell? ⟨w3.heap.size, 1, none⟩ = some (.int .i64 (min b b')) ∧ w'.cell? ⟨w3.heap.size, 2, none⟩ = some (.int .i64 (min c c')) ∧ w'.cell? ⟨w3.heap.size + 1, 0, none⟩ = some (.int .i64 (max d d')) ∧ w'.cell? ⟨w3.heap.size + 1, 1, none⟩ = some (.int .i64 (max e e')) ∧ w'.cell? ⟨w3.heap.size + 1, 2, none⟩ = some (.int .i64 (max f f')))
      (first
        | (go_split_ands; ((with_reducible refine ⟨(st6_far ?_).trans ?_, (st6_far ?_).trans ?_, (st6_far ?_).trans ?_, (st6_far ?_).trans ?_, (st6_far ?_).trans ?_, (st6_far ?_).trans ?_⟩) <;> (first | (with_reducible assumption) | (show _ ≠ _; omega))))
        | (go_split_ands; ((with_reducible refine ⟨keepc hb ?_, keepc hb ?_, keepc hb ?_, keepc hb ?_, keepc hb ?_, keepc hb ?_⟩) <;> (with_reducible assumption)))
        | go_keep)
      ((go_at_call 41; refine (position_any _ _ _ _).mono ?_; rintro r w5 ⟨rfl, hb⟩; (first | replace p3 := Lib.hid (blk_b hb p3.out) | skip); (first | replace hA := Lib.hid (Buf.then_ hA.out hb) | replace hA := Lib.hid (Buf.then_ hA.out.drew hb)); obtain ⟨e1, e2, e3, e4, e5, e6, e7, e8, e9, e10, e11, e12⟩ := cells6f p3.out))
    have y1 := Lib.hid (st6 p3.out (.int .i64 (min a a')) (.int .i64 (min b b')) (.int .i64 (min c c')) (.int .i64 (max d d')) (.int .i64 (max e e')) (.int .i64 (max f f')))
    have y3 := Lib.hid (st6_below hA.out (g := w.heap.size + 1 + 1) (by omega) (.int .i64 (min a a')) (.int .i64 (min b b')) (.int .i64 (min c c')) (.int .i64 (max d d')) (.int .i64 (max e e')) (.int .i64 (max f f')))
    go_wp2
    exact bodyPost_ret (results_cell_row rfl _ _ (w.heap.size + 1 + 1) _ _ _ _ rfl y1.out rfl (by rfl) rfl) rfl ⟨rfl, y3.out⟩
end Geo
end Go.Proofs.YtldgihlhioeipaaGreat
