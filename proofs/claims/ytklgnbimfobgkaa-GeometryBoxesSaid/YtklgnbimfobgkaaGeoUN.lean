/- The order of any positions. -/
import Derived.Test.YtklgnbimfobgkaaGeoTN
namespace Go.Proofs.Ytklgnbimfobgkaa
open Go.RowKit
namespace Geo
set_option maxHeartbeats 4000000 in
set_option maxRecDepth 100000 in
theorem compare_any (a b c d e f : Int) (w : World) :
    Calls Try.prog 38 #[.agg #[.int .i64 a, .int .i64 b, .int .i64 c], .agg #[.int .i64 d, .int .i64 e, .int .i64 f]] w fun r w' => r = .returned (.int .i64 (cmp3 (cmpI a d) (cmpI b e) (cmpI c f))) ∧ Below w.heap.size w w' := by
  have S := Lib.hid fun p q w hp hq => scmp3_any p q a b c d e f w hp hq
  have p1 := Lib.hid (blk_alloc (blk_new w (.cells #[.int .i64 a, .int .i64 b, .int .i64 c] 23)) (.cells #[.int .i64 d, .int .i64 e, .int .i64 f] 23))
  have p2 := Lib.hid (blk_new1 w (.cells #[.int .i64 a, .int .i64 b, .int .i64 c] 23) (.cells #[.int .i64 d, .int .i64 e, .int .i64 f] 23))
  have hA : Hid (Below w.heap.size w ((w.alloc (.cells #[.int .i64 a, .int .i64 b, .int .i64 c] 23)).alloc (.cells #[.int .i64 d, .int .i64 e, .int .i64 f] 23))) := Lib.hid (Buf.then_ (new_block _) (new_block _))
  go_enter Try.func38, Try.ntmps38
  go_wp2_with fail
  obtain ⟨w2, hw2⟩ : ∃ w2, w2 = (w.alloc (.cells #[.int .i64 a, .int .i64 b, .int .i64 c] 23)).alloc (.cells #[.int .i64 d, .int .i64 e, .int .i64 f] 23) := ⟨_, rfl⟩
  rw [← hw2] at p1 p2 hA ⊢
  clear hw2
  obtain ⟨a1, a2, a3, _, _, _⟩ := cells3 p1.out
  obtain ⟨q1, q2, q3, _, _, _⟩ := cells3 p2.out
  have hlt : Hid (w.heap.size + 1 < w2.heap.size) := Lib.hid (Array.getElem?_eq_some_iff.1 p2.out).1
  have zs := Array.getElem?_eq_some_iff.1 p2.out
  have zs := zs.1
  go_cut [5, 6] (fun s5 s6 wx => ∃ p q : Nat, s5 = .pointer (some ⟨p, 0, none⟩) ∧ s6 = .pointer (some ⟨q, 0, none⟩) ∧ Hid (wx.heap[p]? = some (.cells #[.int .i64 a, .int .i64 b, .int .i64 c] 55 (0, 0))) ∧ Hid (wx.heap[q]? = some (.cells #[.int .i64 d, .int .i64 e, .int .i64 f] 55 (0, 0))) ∧ Hid (Below w.heap.size w wx))
  case first =>
    go_region_held3 (fun w' => w'.cell? ⟨w.heap.size, 0, none⟩ = some (.int .i64 a) ∧ w'.cell? ⟨w.heap.size, 1, none⟩ = some (.int .i64 b) ∧ w'.cell? ⟨w.heap.size, 2, none⟩ = some (.int .i64 c) ∧ w'.cell? ⟨w.heap.size + 1, 0, none⟩ = some (.int .i64 d) ∧ w'.cell? ⟨w.heap.size + 1, 1, none⟩ = some (.int .i64 e) ∧ w'.cell? ⟨w.heap.size + 1, 2, none⟩ = some (.int .i64 f))
      (refine ⟨?_, ?_, ?_, ?_, ?_, ?_⟩ <;> (repeat (with_reducible first | exact a1 | exact a2 | exact a3 | exact q1 | exact q2 | exact q3 | refine keepc hbB ?_ | refine keepc hbA ?_ | refine keepc (new_block _) ?_ | refine keepc ((Below.refl _ _).drew) ?_ | (refine (World.cell?_setCell_far _ _ _ _ ?_).trans ?_; · (simp only [ne_eq]; omega)))))
      ((first
        | (go_at_call 50; (with_reducible refine (coords_any a b c _).mono ?_); rintro r wA ⟨rfl, hbA⟩; have zA := hbA.size; (try simp at zA); (first | (with_reducible have m1 : Hid (wA.heap[w2.heap.size]? = some (.cells #[.int .i64 0, .int .i64 0, .int .i64 0] 55 (0, 0))) := Lib.hid (blk_b hbA (blk_drew (blk_new w2 (.cells #[.int .i64 0, .int .i64 0, .int .i64 0] 55))))) | (with_reducible have m1 : Hid (wA.heap[w2.heap.size]? = some (.cells #[.int .i64 0, .int .i64 0, .int .i64 0] 55 (0, 0))) := Lib.hid (blk_b hbA (blk_drew (blk_alloc (blk_new w2 (.cells #[.int .i64 0, .int .i64 0, .int .i64 0] 55)) (.cells #[.int .i64 0, .int .i64 0, .int .i64 0] 55))))) | skip); (first | (with_reducible have m2 : Hid (wA.heap[w2.heap.size + 1]? = some (.cells #[.int .i64 0, .int .i64 0, .int .i64 0] 55 (0, 0))) := Lib.hid (blk_b hbA (blk_drew (blk_new1 w2 (.cells #[.int .i64 0, .int .i64 0, .int .i64 0] 55) (.cells #[.int .i64 0, .int .i64 0, .int .i64 0] 55))))) | skip))
        | (go_at_call 50; (with_reducible refine (coords_any d e f _).mono ?_); rintro r wB ⟨rfl, hbB⟩; have zB := hbB.size; (try simp at zB); (first | (with_reducible replace m1 : Hid (wB.heap[w2.heap.size]? = some (.cells #[.int .i64 0, .int .i64 0, .int .i64 0] 55 (0, 0))) := Lib.hid (blk_b hbB m1.out)) | (with_reducible replace m1 : Hid (wB.heap[w2.heap.size]? = some (.cells #[.int .i64 0, .int .i64 0, .int .i64 0] 55 (0, 0))) := Lib.hid (blk_b hbB (blk_alloc m1.out (.cells #[.int .i64 0, .int .i64 0, .int .i64 0] 55)))) | (with_reducible replace m1 : Hid (wB.heap[w2.heap.size]? = some (.cells #[.int .i64 0, .int .i64 0, .int .i64 0] 55 (0, 0))) := Lib.hid (blk_b hbB (blk_alloc (blk_alloc m1.out (.cells #[.int .i64 0, .int .i64 0, .int .i64 0] 55)) (.cells #[.int .i64 0, .int .i64 0, .int .i64 0] 55)))) | skip); (first | (with_reducible replace m2 : Hid (wB.heap[w2.heap.size + 1]? = some (.cells #[.int .i64 0, .int .i64 0, .int .i64 0] 55 (0, 0))) := Lib.hid (blk_b hbB m2.out)) | (with_reducible replace m2 : Hid (wB.heap[w2.heap.size + 1]? = some (.cells #[.int .i64 0, .int .i64 0, .int .i64 0] 55 (0, 0))) := Lib.hid (blk_b hbB (blk_alloc m2.out (.cells #[.int .i64 0, .int .i64 0, .int .i64 0] 55)))) | skip); (first | (with_reducible have m3 : Hid (wB.heap[wA.heap.size]? = some (.cells #[.int .i64 0, .int .i64 0, .int .i64 0] 55 (0, 0))) := Lib.hid (blk_b hbB (blk_new wA (.cells #[.int .i64 0, .int .i64 0, .int .i64 0] 55)))) | (with_reducible have m3 : Hid (wB.heap[wA.heap.size]? = some (.cells #[.int .i64 0, .int .i64 0, .int .i64 0] 55 (0, 0))) := Lib.hid (blk_b hbB (blk_alloc (blk_new wA (.cells #[.int .i64 0, .int .i64 0, .int .i64 0] 55)) (.cells #[.int .i64 0, .int .i64 0, .int .i64 0] 55)))) | skip); (first | (with_reducible have m4 : Hid (wB.heap[wA.heap.size + 1]? = some (.cells #[.int .i64 0, .int .i64 0, .int .i64 0] 55 (0, 0))) := Lib.hid (blk_b hbB (blk_new1 wA (.cells #[.int .i64 0, .int .i64 0, .int .i64 0] 55) (.cells #[.int .i64 0, .int .i64 0, .int .i64 0] 55)))) | skip); (first | (have n1 := cells3 m1.out; obtain ⟨_, _, _, _, _, _⟩ := n1; have y1 := (Array.getElem?_eq_some_iff.1 m1.out).1) | skip); (first | (have n2 := cells3 m2.out; obtain ⟨_, _, _, _, _, _⟩ := n2; have y2 := (Array.getElem?_eq_some_iff.1 m2.out).1) | skip); (first | (have n3 := cells3 m3.out; obtain ⟨_, _, _, _, _, _⟩ := n3; have y3 := (Array.getElem?_eq_some_iff.1 m3.out).1) | skip); (first | (have n4 := cells3 m4.out; obtain ⟨_, _, _, _, _, _⟩ := n4; have y4 := (Array.getElem?_eq_some_iff.1 m4.out).1) | skip))))
    all_goals go_wp2_with fail
    all_goals go_meet
    all_goals
      have hlt' := hlt.out
      refine ⟨_, _, rfl, rfl, Lib.hid ?_, Lib.hid ?_, Lib.hid ?_⟩
      · (repeat (with_reducible first | exact blk_new _ _ | exact blk_new1 _ _ _ | (apply blk_newk; simp [World.setCell]; done) | apply blk_alloc | apply st3 (u := .int .i64 0) (v := .int .i64 0) (r := .int .i64 0) | (apply st3_o; · omega) | (apply m1.out; done) | (apply m2.out; done) | (apply m3.out; done) | (apply m4.out; done)))
      · (repeat (with_reducible first | exact blk_new _ _ | exact blk_new1 _ _ _ | (apply blk_newk; simp [World.setCell]; done) | apply blk_alloc | apply st3 (u := .int .i64 0) (v := .int .i64 0) (r := .int .i64 0) | (apply st3_o; · omega) | (apply m1.out; done) | (apply m2.out; done) | (apply m3.out; done) | (apply m4.out; done)))
      · (repeat (with_reducible first | apply hA.out | apply bl_alloc | (apply st3_b; · omega) | apply Buf.then_ (k := hbB) | apply Buf.then_ (k := hbA) | apply Below.drew))
  case rest =>
    obtain ⟨p, q, rfl, rfl, gp, gq, hW⟩ := hcut
    clear hA a1 a2 a3 q1 q2 q3 p1 p2 hlt zs
    replace S := Lib.hid (fun n : Nat => S.out p q (wc.drewN n) (blk_b (Buf.below_drewN (Below.refl wc.heap.size wc) n) gp.out) (blk_b (Buf.below_drewN (Below.refl wc.heap.size wc) n) gq.out))
    clear gp gq
    go_wp2_with fail
    go_quiet ((go_at_call 57; first | (with_reducible exact Calls.quiet_of_same (S.out _)) | (trace_state; fail)))
    go_wp2
    go_ret
    exact ⟨rfl, Buf.below_drewN hW.out _⟩
end Geo
end Go.Proofs.Ytklgnbimfobgkaa
