/- Contracts of package geometry: Split, whatever the valid box. -/
import Derived.Test.YtldgihlhioeipaaGeoO
namespace Go.Proofs.Ytldgihlhioeipaa
open Go.RowKit
namespace Geo
set_option maxHeartbeats 8000000 in
set_option maxRecDepth 100000 in
theorem split_B (a b c d e f : Int) (h : BV a b c d e f) (h2 : 2 ≤ pts a b c d e f) (k1 : e - b ≤ d - a) (k2 : d - a < f - c) (w : World) :
    Calls Try.prog 31 #[.agg #[.int .i64 a, .int .i64 b, .int .i64 c, .int .i64 d, .int .i64 e, .int .i64 f]] w fun r w' => r = .returned (.tuple #[.agg #[.int .i64 a, .int .i64 b, .int .i64 c, .int .i64 d, .int .i64 e, .int .i64 (c + (f - c) / 2)], .agg #[.int .i64 a, .int .i64 b, .int .i64 ((c + (f - c) / 2) + 1), .int .i64 d, .int .i64 e, .int .i64 f], .bool true]) ∧ Below w.heap.size w w' := by
  have hM := Lib.hid (middle_yes c f)
  have V1 := Lib.hid (points_yes a b c d e f h)
  obtain ⟨⟨ax0, ax1, ay0, ay1, az0, az1⟩, ⟨dx0, dx1, dy0, dy1, dz0, dz1⟩, hx, hy, hz⟩ := h
  generalize pts a b c d e f = np at *
  have p1 := Lib.hid (blk_alloc (blk_alloc (blk_new w (.cells #[.int .i64 a, .int .i64 b, .int .i64 c, .int .i64 d, .int .i64 e, .int .i64 f] 26)) (.cells #[.int .i64 0, .int .i64 0, .int .i64 0, .int .i64 0, .int .i64 0, .int .i64 0] 26)) (.cells #[.int .i64 0, .int .i64 0, .int .i64 0, .int .i64 0, .int .i64 0, .int .i64 0] 26))
  have p2 := Lib.hid (blk_alloc (blk_new1 w (.cells #[.int .i64 a, .int .i64 b, .int .i64 c, .int .i64 d, .int .i64 e, .int .i64 f] 26) (.cells #[.int .i64 0, .int .i64 0, .int .i64 0, .int .i64 0, .int .i64 0, .int .i64 0] 26)) (.cells #[.int .i64 0, .int .i64 0, .int .i64 0, .int .i64 0, .int .i64 0, .int .i64 0] 26))
  have p3 := Lib.hid (blk_new2 w (.cells #[.int .i64 a, .int .i64 b, .int .i64 c, .int .i64 d, .int .i64 e, .int .i64 f] 26) (.cells #[.int .i64 0, .int .i64 0, .int .i64 0, .int .i64 0, .int .i64 0, .int .i64 0] 26) (.cells #[.int .i64 0, .int .i64 0, .int .i64 0, .int .i64 0, .int .i64 0, .int .i64 0] 26))
  have hA : Hid (Below w.heap.size w (((w.alloc (.cells #[.int .i64 a, .int .i64 b, .int .i64 c, .int .i64 d, .int .i64 e, .int .i64 f] 26)).alloc (.cells #[.int .i64 0, .int .i64 0, .int .i64 0, .int .i64 0, .int .i64 0, .int .i64 0] 26)).alloc (.cells #[.int .i64 0, .int .i64 0, .int .i64 0, .int .i64 0, .int .i64 0, .int .i64 0] 26))) := Lib.hid (Buf.then_ (Buf.then_ (new_block _) (new_block _)) (new_block _))
  go_enter Try.func31, Try.ntmps31
  go_wp2_with fail
  with_reducible refine (V1.out _).mono ?_
  rintro r w1 ⟨rfl, hb⟩
  replace p1 := Lib.hid (blk_b hb p1.out)
  replace p2 := Lib.hid (blk_b hb p2.out)
  replace p3 := Lib.hid (blk_b hb p3.out)
  replace hA := Lib.hid (Buf.then_ hA.out hb)
  clear hb
  obtain ⟨u1, u2, u3, u4, u5, u6⟩ := cells6 p1.out
  go_wp2_with fail
  refine (ends_any a b c d e f _).mono ?_
  rintro r w3 ⟨rfl, hb⟩
  have hlt := Lib.hid (Array.getElem?_eq_some_iff.1 (blk_b hb p3.out)).1
  replace p1 := Lib.hid (blk_alloc (blk_alloc (blk_b hb p1.out) (.cells #[.int .i64 a, .int .i64 b, .int .i64 c] 95)) (.cells #[.int .i64 d, .int .i64 e, .int .i64 f] 95))
  replace p2 := Lib.hid (blk_alloc (blk_alloc (blk_b hb p2.out) (.cells #[.int .i64 a, .int .i64 b, .int .i64 c] 95)) (.cells #[.int .i64 d, .int .i64 e, .int .i64 f] 95))
  replace p3 := Lib.hid (blk_alloc (blk_alloc (blk_b hb p3.out) (.cells #[.int .i64 a, .int .i64 b, .int .i64 c] 95)) (.cells #[.int .i64 d, .int .i64 e, .int .i64 f] 95))
  have g2 := Lib.hid (blk_alloc (blk_new w3 (.cells #[.int .i64 a, .int .i64 b, .int .i64 c] 95)) (.cells #[.int .i64 d, .int .i64 e, .int .i64 f] 95))
  have g3 := Lib.hid (blk_new1 w3 (.cells #[.int .i64 a, .int .i64 b, .int .i64 c] 95) (.cells #[.int .i64 d, .int .i64 e, .int .i64 f] 95))
  have hW : Hid (Below w.heap.size w ((w3.alloc (.cells #[.int .i64 a, .int .i64 b, .int .i64 c] 95)).alloc (.cells #[.int .i64 d, .int .i64 e, .int .i64 f] 95))) := Lib.hid (Buf.then_ (Buf.then_ (Buf.then_ hA.out hb) (new_block _)) (new_block _))
  clear hb hA u1 u2 u3 u4 u5 u6 V1
  go_wp2_with fail
  go_loopw [7, 22] (fun u i wr => ∃ k : Nat, k ≤ 3 ∧ i = .int .i64 k ∧ u = .int .i64 (match k with | 0 => 0 | 1 => 0 | 2 => 0 | _ => 2) ∧ Hid (wr.heap[w.heap.size]? = some (.cells #[.int .i64 a, .int .i64 b, .int .i64 c, .int .i64 d, .int .i64 e, .int .i64 f] 26 (0, 0))) ∧ Hid (wr.heap[w.heap.size + 1]? = some (.cells #[.int .i64 0, .int .i64 0, .int .i64 0, .int .i64 0, .int .i64 0, .int .i64 0] 26 (0, 0))) ∧ Hid (wr.heap[w.heap.size + 1 + 1]? = some (.cells #[.int .i64 0, .int .i64 0, .int .i64 0, .int .i64 0, .int .i64 0, .int .i64 0] 26 (0, 0))) ∧ Hid (wr.heap[w3.heap.size]? = some (.cells #[.int .i64 a, .int .i64 b, .int .i64 c] 95 (0, 0))) ∧ Hid (wr.heap[w3.heap.size + 1]? = some (.cells #[.int .i64 d, .int .i64 e, .int .i64 f] 95 (0, 0))) ∧ Hid (Below w.heap.size w wr)) (fun _ i _ => (3 - intOf i).toNat)
  case atStart => exact ⟨0, by omega, rfl, rfl, p1, p2, p3, g2, g3, hW⟩
  case round =>
    clear p1 p2 p3 g2 g3 hW
    obtain ⟨k, hk, rfl, hu, p1, p2, p3, g2, g3, hW⟩ := hrel
    obtain ⟨b1, b2, b3, f1, f2, f3⟩ := cells3 g2.out
    obtain ⟨c1, c2, c3, f4, f5, f6⟩ := cells3 g3.out
    by_cases h0 : k = 0
    · subst h0
      replace hu : _ = Value.int .i64 0 := hu
      subst hu
      go_wp2
      go_quiet (fail)
      go_wp2
      go_roundw
      case rel => exact ⟨1, by omega, rfl, rfl, p1, p2, p3, g2, g3, Lib.hid (Buf.below_drewN hW.out _)⟩
      case measure => simp [intOf]
    by_cases h1 : k = 1
    · subst h1
      replace hu : _ = Value.int .i64 0 := hu
      subst hu
      go_wp2
      go_quiet (fail)
      go_wp2
      go_roundw
      case rel => exact ⟨2, by omega, rfl, rfl, p1, p2, p3, g2, g3, Lib.hid (Buf.below_drewN hW.out _)⟩
      case measure => simp [intOf]
    by_cases h2 : k = 2
    · subst h2
      replace hu : _ = Value.int .i64 0 := hu
      subst hu
      go_wp2
      go_quiet (fail)
      go_wp2
      go_roundw
      case rel => exact ⟨3, by omega, rfl, rfl, p1, p2, p3, g2, g3, Lib.hid (Buf.below_drewN hW.out _)⟩
      case measure => simp [intOf]
    obtain rfl : k = 3 := by omega
    replace hu : _ = Value.int .i64 2 := hu
    subst hu
    have hlt' := hlt.out
    go_wp2_with fail
    have M4 : Hid (∀ w, Calls Try.prog 54 #[.int .i64 c, .int .i64 f] w fun r' w' => r' = .returned (.int .i64 (c + (f - c) / 2)) ∧ w' = w) := Lib.hid fun w => hM.out w (by omega) (by omega) (by omega)
    go_quiet ((go_at_call 54; exact Calls.quiet_of_same (M4.out _)))
    have hW2 := Lib.hid (Buf.below_drewN hW.out nq)
    have mb0 : -1048576 ≤ (c + (f - c) / 2) := by omega
    have mb1 : (c + (f - c) / 2) ≤ 1048576 := by omega
    go_wp2_with fail
    go_cut [10, 11] (fun s10 s11 wx => ∃ p q : Nat, p ≠ q ∧ w3.heap.size + 1 < p ∧ w3.heap.size + 1 < q ∧ s10 = .pointer (some ⟨p, 0, none⟩) ∧ s11 = .pointer (some ⟨q, 0, none⟩) ∧ Hid (wx.heap[w.heap.size]? = some (.cells #[.int .i64 a, .int .i64 b, .int .i64 c, .int .i64 d, .int .i64 e, .int .i64 f] 26 (0, 0))) ∧ Hid (wx.heap[w.heap.size + 1]? = some (.cells #[.int .i64 0, .int .i64 0, .int .i64 0, .int .i64 0, .int .i64 0, .int .i64 0] 26 (0, 0))) ∧ Hid (wx.heap[w.heap.size + 1 + 1]? = some (.cells #[.int .i64 0, .int .i64 0, .int .i64 0, .int .i64 0, .int .i64 0, .int .i64 0] 26 (0, 0))) ∧ Hid (wx.heap[p]? = some (.cells #[.int .i64 d, .int .i64 e, .int .i64 f] 95 (0, 0))) ∧ Hid (wx.heap[q]? = some (.cells #[.int .i64 a, .int .i64 b, .int .i64 c] 95 (0, 0))) ∧ Hid (Below w.heap.size w wx))
    case first =>
      obtain ⟨wz, hwz⟩ : ∃ wz, wz = wr.drewN nq := ⟨_, rfl⟩
      have z1 : wz.cell? ⟨w3.heap.size, 0, none⟩ = some (.int .i64 a) := by rw [hwz]; exact b1
      have z2 : wz.cell? ⟨w3.heap.size, 1, none⟩ = some (.int .i64 b) := by rw [hwz]; exact b2
      have z3 : wz.cell? ⟨w3.heap.size, 2, none⟩ = some (.int .i64 c) := by rw [hwz]; exact b3
      have z4 : wz.cell? ⟨w3.heap.size + 1, 0, none⟩ = some (.int .i64 d) := by rw [hwz]; exact c1
      have z5 : wz.cell? ⟨w3.heap.size + 1, 1, none⟩ = some (.int .i64 e) := by rw [hwz]; exact c2
      have z6 : wz.cell? ⟨w3.heap.size + 1, 2, none⟩ = some (.int .i64 f) := by rw [hwz]; exact c3
      have n1 := World.new_ne wz _ z1
      have n2 := World.new_ne wz _ z4
      rw [← hwz]
      replace hwz := Lib.hid hwz
      clear b1 b2 b3 c1 c2 c3 f1 f2 f3 f4 f5 f6
      go_region_held3 (fun w' => w'.cell? ⟨w3.heap.size, 0, none⟩ = some (.int .i64 a) ∧ w'.cell? ⟨w3.heap.size, 1, none⟩ = some (.int .i64 b) ∧ w'.cell? ⟨w3.heap.size, 2, none⟩ = some (.int .i64 c) ∧ w'.cell? ⟨w3.heap.size + 1, 0, none⟩ = some (.int .i64 d) ∧ w'.cell? ⟨w3.heap.size + 1, 1, none⟩ = some (.int .i64 e) ∧ w'.cell? ⟨w3.heap.size + 1, 2, none⟩ = some (.int .i64 f)) (go_keep) (fail)
      all_goals go_wp2_with fail
      all_goals go_meet
      all_goals
        have q1 : wz.heap[w.heap.size]? = some (.cells #[.int .i64 a, .int .i64 b, .int .i64 c, .int .i64 d, .int .i64 e, .int .i64 f] 26 (0, 0)) := by rw [hwz.out]; exact p1.out
        have q2 : wz.heap[w.heap.size + 1]? = some (.cells #[.int .i64 0, .int .i64 0, .int .i64 0, .int .i64 0, .int .i64 0, .int .i64 0] 26 (0, 0)) := by rw [hwz.out]; exact p2.out
        have q3 : wz.heap[w.heap.size + 1 + 1]? = some (.cells #[.int .i64 0, .int .i64 0, .int .i64 0, .int .i64 0, .int .i64 0, .int .i64 0] 26 (0, 0)) := by rw [hwz.out]; exact p3.out
        have q4 : Below w.heap.size w wz := by rw [hwz.out]; exact hW2.out
        have q5 := World.block_lt_of_cell? wz _ z4
        simp only at q5
      · exact ⟨wz.heap.size, wz.heap.size + 1, by omega, by omega, by omega, rfl, rfl, Lib.hid (blk_alloc (blk_alloc q1 _) _), Lib.hid (blk_alloc (blk_alloc q2 _) _), Lib.hid (blk_alloc (blk_alloc q3 _) _), Lib.hid (blk_alloc (blk_new wz _) _), Lib.hid (blk_new1 wz _ _), Lib.hid (Below.drew (Buf.then_ (Buf.then_ q4 (new_block _)) (new_block _)))⟩
      · exact ⟨wz.heap.size + 1, wz.heap.size, by omega, by omega, by omega, rfl, rfl, Lib.hid (blk_alloc (blk_alloc q1 _) _), Lib.hid (blk_alloc (blk_alloc q2 _) _), Lib.hid (blk_alloc (blk_alloc q3 _) _), Lib.hid (blk_new1 wz _ _), Lib.hid (blk_alloc (blk_new wz _) _), Lib.hid (Below.drew (Buf.then_ (Buf.then_ q4 (new_block _)) (new_block _)))⟩
    case rest =>
      obtain ⟨p, q, hpq, hp0, hq0, rfl, rfl, p1, p2, p3, gp, gq, hW⟩ := hcut
      obtain ⟨b1, b2, b3, f1, f2, f3⟩ := cells3 gp.out
      obtain ⟨c1, c2, c3, f4, f5, f6⟩ := cells3 gq.out
      have hqp : q ≠ p := Ne.symm hpq
      have d1 : (wc.setCell ⟨p, 2, none⟩ (.int .i64 (c + (f - c) / 2))).cell? ⟨q, 2, none⟩ = some (.int .i64 c) := by rw [World.cell?_setCell_far _ _ _ _ hpq]; exact c3
      have d2 : (wc.setCell ⟨p, 2, none⟩ (.int .i64 (c + (f - c) / 2))).frozen? ⟨q, 2, none⟩ = false := by rw [World.frozen?_setCell]; exact f6
      go_wp2_with fail
      obtain ⟨wz, hwz⟩ : ∃ wz, wz = (wc.setCell ⟨p, 2, none⟩ (.int .i64 (c + (f - c) / 2))).setCell ⟨q, 2, none⟩ (.int .i64 ((c + (f - c) / 2) + 1)) := ⟨_, rfl⟩
      have zp : wz.heap[p]? = some (.cells #[.int .i64 d, .int .i64 e, .int .i64 (c + (f - c) / 2)] 95 (0, 0)) := by rw [hwz, Below.heap_setCell _ _ _ p (by simpa using hpq)]; exact (heap_setCell_same _ p 2 _ _ _ gp.out).trans rfl
      have zq : wz.heap[q]? = some (.cells #[.int .i64 a, .int .i64 b, .int .i64 ((c + (f - c) / 2) + 1)] 95 (0, 0)) := by rw [hwz]; exact (heap_setCell_same _ q 2 _ _ _ ((Below.heap_setCell _ _ _ q (by simpa using hqp)).trans gq.out)).trans rfl
      have z1 : wz.heap[w.heap.size]? = some (.cells #[.int .i64 a, .int .i64 b, .int .i64 c, .int .i64 d, .int .i64 e, .int .i64 f] 26 (0, 0)) := by rw [hwz, Below.heap_setCell _ _ _ _ (by simp; omega), Below.heap_setCell _ _ _ _ (by simp; omega)]; exact p1.out
      have z2 : wz.heap[w.heap.size + 1]? = some (.cells #[.int .i64 0, .int .i64 0, .int .i64 0, .int .i64 0, .int .i64 0, .int .i64 0] 26 (0, 0)) := by rw [hwz, Below.heap_setCell _ _ _ _ (by simp; omega), Below.heap_setCell _ _ _ _ (by simp; omega)]; exact p2.out
      have z3 : wz.heap[w.heap.size + 1 + 1]? = some (.cells #[.int .i64 0, .int .i64 0, .int .i64 0, .int .i64 0, .int .i64 0, .int .i64 0] 26 (0, 0)) := by rw [hwz, Below.heap_setCell _ _ _ _ (by simp; omega), Below.heap_setCell _ _ _ _ (by simp; omega)]; exact p3.out
      have z4 : Below w.heap.size w wz := by rw [hwz]; exact (hW.out.setCell (by simp; omega) _).setCell (by simp; omega) _
      rw [← hwz]
      clear hwz b1 b2 b3 f1 f2 f3 c1 c2 c3 f4 f5 f6 d1 d2 gp gq p1 p2 p3 hW
      obtain ⟨b1, b2, b3, _, _, _⟩ := cells3 zp
      obtain ⟨c1, c2, c3, _, _, _⟩ := cells3 zq
      obtain ⟨d1, d2, d3, d4, d5, d6⟩ := cells6 z1
      replace z1 := Lib.hid z1
      replace z2 := Lib.hid z2
      replace z3 := Lib.hid z3
      replace z4 := Lib.hid z4
      clear zp zq
      have m5 : w.heap.size + 1 ≠ w.heap.size := by omega
      have m6 : w.heap.size + 1 + 1 ≠ w.heap.size := by omega
      have m1 : w.heap.size + 1 ≠ p := by omega
      have m2 : w.heap.size + 1 ≠ q := by omega
      have m3 : w.heap.size + 1 + 1 ≠ p := by omega
      have m4 : w.heap.size + 1 + 1 ≠ q := by omega
      clear hp0 hq0 hpq hqp
      go_region_held3 (fun w' => w'.cell? ⟨p, 0, none⟩ = some (.int .i64 d) ∧ w'.cell? ⟨p, 1, none⟩ = some (.int .i64 e) ∧ w'.cell? ⟨p, 2, none⟩ = some (.int .i64 (c + (f - c) / 2)) ∧ w'.cell? ⟨q, 0, none⟩ = some (.int .i64 a) ∧ w'.cell? ⟨q, 1, none⟩ = some (.int .i64 b) ∧ w'.cell? ⟨q, 2, none⟩ = some (.int .i64 ((c + (f - c) / 2) + 1)) ∧ w'.cell? ⟨w.heap.size, 0, none⟩ = some (.int .i64 a) ∧ w'.cell? ⟨w.heap.size, 1, none⟩ = some (.int .i64 b) ∧ w'.cell? ⟨w.heap.size, 2, none⟩ = some (.int .i64 c) ∧ w'.cell? ⟨w.heap.size, 3, none⟩ = some (.int .i64 d) ∧ w'.cell? ⟨w.heap.size, 4, none⟩ = some (.int .i64 e) ∧ w'.cell? ⟨w.heap.size, 5, none⟩ = some (.int .i64 f))
        (first
          | (go_split_ands; ((with_reducible refine ⟨(st6_far ?_).trans ?_, (st6_far ?_).trans ?_, (st6_far ?_).trans ?_, (st6_far ?_).trans ?_, (st6_far ?_).trans ?_, (st6_far ?_).trans ?_, (st6_far ?_).trans ?_, (st6_far ?_).trans ?_, (st6_far ?_).trans ?_, (st6_far ?_).trans ?_, (st6_far ?_).trans ?_, (st6_far ?_).trans ?_⟩) <;> (first | (with_reducible assumption) | (show _ ≠ _; omega))))
          | (go_split_ands; ((with_reducible refine ⟨keepc hb ?_, keepc hb ?_, keepc hb ?_, keepc hb ?_, keepc hb ?_, keepc hb ?_, keepc hb ?_, keepc hb ?_, keepc hb ?_, keepc hb ?_, keepc hb ?_, keepc hb ?_⟩) <;> (with_reducible assumption)))
          | go_keep)
        ((go_at_call 55; refine (position_any _ _ _ _).mono ?_; rintro r w5 ⟨rfl, hb⟩; (first | replace z2 := Lib.hid (blk_b hb z2.out) | skip); (first | replace z3 := Lib.hid (blk_b hb z3.out) | skip); (first | replace z4 := Lib.hid (Buf.then_ z4.out hb) | replace z4 := Lib.hid (Buf.then_ z4.out.drew hb)); obtain ⟨e1, e2, e3, e4, e5, e6, e7, e8, e9, e10, e11, e12⟩ := cells6f z2.out; obtain ⟨h1, h2, h3, h4, h5, h6, h7, h8, h9, h10, h11, h12⟩ := cells6f z3.out))
      have y1 := Lib.hid (st6 ((st6_other w5 (k := w.heap.size + 1 + 1) (g := w.heap.size + 1) (by omega) (.int .i64 a) (.int .i64 b) (.int .i64 c) (.int .i64 d) (.int .i64 e) (.int .i64 (c + (f - c) / 2))).trans z3.out) (.int .i64 a) (.int .i64 b) (.int .i64 ((c + (f - c) / 2) + 1)) (.int .i64 d) (.int .i64 e) (.int .i64 f))
      have y2 := Lib.hid ((st6_other _ (k := w.heap.size + 1) (g := w.heap.size + 1 + 1) (by omega) (.int .i64 a) (.int .i64 b) (.int .i64 ((c + (f - c) / 2) + 1)) (.int .i64 d) (.int .i64 e) (.int .i64 f)).trans (st6 z2.out (.int .i64 a) (.int .i64 b) (.int .i64 c) (.int .i64 d) (.int .i64 e) (.int .i64 (c + (f - c) / 2))))
      have y3 := Lib.hid (st6_below (st6_below z4.out (g := w.heap.size + 1) (by omega) (.int .i64 a) (.int .i64 b) (.int .i64 c) (.int .i64 d) (.int .i64 e) (.int .i64 (c + (f - c) / 2))) (g := w.heap.size + 1 + 1) (by omega) (.int .i64 a) (.int .i64 b) (.int .i64 ((c + (f - c) / 2) + 1)) (.int .i64 d) (.int .i64 e) (.int .i64 f))
      go_wp2
      exact bodyPost_ret (results_two_rows_tmp rfl _ _ (w.heap.size + 1) (w.heap.size + 1 + 1) _ _ _ _ _ _ _ _ rfl y2.out rfl (by rfl) rfl rfl y1.out rfl (by rfl) rfl) rfl ⟨rfl, y3.out⟩
set_option maxHeartbeats 8000000 in
set_option maxRecDepth 100000 in
theorem split_C (a b c d e f : Int) (h : BV a b c d e f) (h2 : 2 ≤ pts a b c d e f) (k1 : d - a < e - b) (k2 : f - c ≤ e - b) (w : World) :
    Calls Try.prog 31 #[.agg #[.int .i64 a, .int .i64 b, .int .i64 c, .int .i64 d, .int .i64 e, .int .i64 f]] w fun r w' => r = .returned (.tuple #[.agg #[.int .i64 a, .int .i64 b, .int .i64 c, .int .i64 d, .int .i64 (b + (e - b) / 2), .int .i64 f], .agg #[.int .i64 a, .int .i64 ((b + (e - b) / 2) + 1), .int .i64 c, .int .i64 d, .int .i64 e, .int .i64 f], .bool true]) ∧ Below w.heap.size w w' := by
  have hM := Lib.hid (middle_yes b e)
  have V1 := Lib.hid (points_yes a b c d e f h)
  obtain ⟨⟨ax0, ax1, ay0, ay1, az0, az1⟩, ⟨dx0, dx1, dy0, dy1, dz0, dz1⟩, hx, hy, hz⟩ := h
  generalize pts a b c d e f = np at *
  have p1 := Lib.hid (blk_alloc (blk_alloc (blk_new w (.cells #[.int .i64 a, .int .i64 b, .int .i64 c, .int .i64 d, .int .i64 e, .int .i64 f] 26)) (.cells #[.int .i64 0, .int .i64 0, .int .i64 0, .int .i64 0, .int .i64 0, .int .i64 0] 26)) (.cells #[.int .i64 0, .int .i64 0, .int .i64 0, .int .i64 0, .int .i64 0, .int .i64 0] 26))
  have p2 := Lib.hid (blk_alloc (blk_new1 w (.cells #[.int .i64 a, .int .i64 b, .int .i64 c, .int .i64 d, .int .i64 e, .int .i64 f] 26) (.cells #[.int .i64 0, .int .i64 0, .int .i64 0, .int .i64 0, .int .i64 0, .int .i64 0] 26)) (.cells #[.int .i64 0, .int .i64 0, .int .i64 0, .int .i64 0, .int .i64 0, .int .i64 0] 26))
  have p3 := Lib.hid (blk_new2 w (.cells #[.int .i64 a, .int .i64 b, .int .i64 c, .int .i64 d, .int .i64 e, .int .i64 f] 26) (.cells #[.int .i64 0, .int .i64 0, .int .i64 0, .int .i64 0, .int .i64 0, .int .i64 0] 26) (.cells #[.int .i64 0, .int .i64 0, .int .i64 0, .int .i64 0, .int .i64 0, .int .i64 0] 26))
  have hA : Hid (Below w.heap.size w (((w.alloc (.cells #[.int .i64 a, .int .i64 b, .int .i64 c, .int .i64 d, .int .i64 e, .int .i64 f] 26)).alloc (.cells #[.int .i64 0, .int .i64 0, .int .i64 0, .int .i64 0, .int .i64 0, .int .i64 0] 26)).alloc (.cells #[.int .i64 0, .int .i64 0, .int .i64 0, .int .i64 0, .int .i64 0, .int .i64 0] 26))) := Lib.hid (Buf.then_ (Buf.then_ (new_block _) (new_block _)) (new_block _))
  go_enter Try.func31, Try.ntmps31
  go_wp2_with fail
  with_reducible refine (V1.out _).mono ?_
  rintro r w1 ⟨rfl, hb⟩
  replace p1 := Lib.hid (blk_b hb p1.out)
  replace p2 := Lib.hid (blk_b hb p2.out)
  replace p3 := Lib.hid (blk_b hb p3.out)
  replace hA := Lib.hid (Buf.then_ hA.out hb)
  clear hb
  obtain ⟨u1, u2, u3, u4, u5, u6⟩ := cells6 p1.out
  go_wp2_with fail
  refine (ends_any a b c d e f _).mono ?_
  rintro r w3 ⟨rfl, hb⟩
  have hlt := Lib.hid (Array.getElem?_eq_some_iff.1 (blk_b hb p3.out)).1
  replace p1 := Lib.hid (blk_alloc (blk_alloc (blk_b hb p1.out) (.cells #[.int .i64 a, .int .i64 b, .int .i64 c] 95)) (.cells #[.int .i64 d, .int .i64 e, .int .i64 f] 95))
  replace p2 := Lib.hid (blk_alloc (blk_alloc (blk_b hb p2.out) (.cells #[.int .i64 a, .int .i64 b, .int .i64 c] 95)) (.cells #[.int .i64 d, .int .i64 e, .int .i64 f] 95))
  replace p3 := Lib.hid (blk_alloc (blk_alloc (blk_b hb p3.out) (.cells #[.int .i64 a, .int .i64 b, .int .i64 c] 95)) (.cells #[.int .i64 d, .int .i64 e, .int .i64 f] 95))
  have g2 := Lib.hid (blk_alloc (blk_new w3 (.cells #[.int .i64 a, .int .i64 b, .int .i64 c] 95)) (.cells #[.int .i64 d, .int .i64 e, .int .i64 f] 95))
  have g3 := Lib.hid (blk_new1 w3 (.cells #[.int .i64 a, .int .i64 b, .int .i64 c] 95) (.cells #[.int .i64 d, .int .i64 e, .int .i64 f] 95))
  have hW : Hid (Below w.heap.size w ((w3.alloc (.cells #[.int .i64 a, .int .i64 b, .int .i64 c] 95)).alloc (.cells #[.int .i64 d, .int .i64 e, .int .i64 f] 95))) := Lib.hid (Buf.then_ (Buf.then_ (Buf.then_ hA.out hb) (new_block _)) (new_block _))
  clear hb hA u1 u2 u3 u4 u5 u6 V1
  go_wp2_with fail
  go_loopw [7, 22] (fun u i wr => ∃ k : Nat, k ≤ 3 ∧ i = .int .i64 k ∧ u = .int .i64 (match k with | 0 => 0 | 1 => 0 | 2 => 1 | _ => 1) ∧ Hid (wr.heap[w.heap.size]? = some (.cells #[.int .i64 a, .int .i64 b, .int .i64 c, .int .i64 d, .int .i64 e, .int .i64 f] 26 (0, 0))) ∧ Hid (wr.heap[w.heap.size + 1]? = some (.cells #[.int .i64 0, .int .i64 0, .int .i64 0, .int .i64 0, .int .i64 0, .int .i64 0] 26 (0, 0))) ∧ Hid (wr.heap[w.heap.size + 1 + 1]? = some (.cells #[.int .i64 0, .int .i64 0, .int .i64 0, .int .i64 0, .int .i64 0, .int .i64 0] 26 (0, 0))) ∧ Hid (wr.heap[w3.heap.size]? = some (.cells #[.int .i64 a, .int .i64 b, .int .i64 c] 95 (0, 0))) ∧ Hid (wr.heap[w3.heap.size + 1]? = some (.cells #[.int .i64 d, .int .i64 e, .int .i64 f] 95 (0, 0))) ∧ Hid (Below w.heap.size w wr)) (fun _ i _ => (3 - intOf i).toNat)
  case atStart => exact ⟨0, by omega, rfl, rfl, p1, p2, p3, g2, g3, hW⟩
  case round =>
    clear p1 p2 p3 g2 g3 hW
    obtain ⟨k, hk, rfl, hu, p1, p2, p3, g2, g3, hW⟩ := hrel
    obtain ⟨b1, b2, b3, f1, f2, f3⟩ := cells3 g2.out
    obtain ⟨c1, c2, c3, f4, f5, f6⟩ := cells3 g3.out
    by_cases h0 : k = 0
    · subst h0
      replace hu : _ = Value.int .i64 0 := hu
      subst hu
      go_wp2
      go_quiet (fail)
      go_wp2
      go_roundw
      case rel => exact ⟨1, by omega, rfl, rfl, p1, p2, p3, g2, g3, Lib.hid (Buf.below_drewN hW.out _)⟩
      case measure => simp [intOf]
    by_cases h1 : k = 1
    · subst h1
      replace hu : _ = Value.int .i64 0 := hu
      subst hu
      go_wp2
      go_quiet (fail)
      go_wp2
      go_roundw
      case rel => exact ⟨2, by omega, rfl, rfl, p1, p2, p3, g2, g3, Lib.hid (Buf.below_drewN hW.out _)⟩
      case measure => simp [intOf]
    by_cases h2 : k = 2
    · subst h2
      replace hu : _ = Value.int .i64 1 := hu
      subst hu
      go_wp2
      go_quiet (fail)
      go_wp2
      go_roundw
      case rel => exact ⟨3, by omega, rfl, rfl, p1, p2, p3, g2, g3, Lib.hid (Buf.below_drewN hW.out _)⟩
      case measure => simp [intOf]
    obtain rfl : k = 3 := by omega
    replace hu : _ = Value.int .i64 1 := hu
    subst hu
    have hlt' := hlt.out
    go_wp2_with fail
    have M4 : Hid (∀ w, Calls Try.prog 54 #[.int .i64 b, .int .i64 e] w fun r' w' => r' = .returned (.int .i64 (b + (e - b) / 2)) ∧ w' = w) := Lib.hid fun w => hM.out w (by omega) (by omega) (by omega)
    go_quiet ((go_at_call 54; exact Calls.quiet_of_same (M4.out _)))
    have hW2 := Lib.hid (Buf.below_drewN hW.out nq)
    have mb0 : -1048576 ≤ (b + (e - b) / 2) := by omega
    have mb1 : (b + (e - b) / 2) ≤ 1048576 := by omega
    go_wp2_with fail
    go_cut [10, 11] (fun s10 s11 wx => ∃ p q : Nat, p ≠ q ∧ w3.heap.size + 1 < p ∧ w3.heap.size + 1 < q ∧ s10 = .pointer (some ⟨p, 0, none⟩) ∧ s11 = .pointer (some ⟨q, 0, none⟩) ∧ Hid (wx.heap[w.heap.size]? = some (.cells #[.int .i64 a, .int .i64 b, .int .i64 c, .int .i64 d, .int .i64 e, .int .i64 f] 26 (0, 0))) ∧ Hid (wx.heap[w.heap.size + 1]? = some (.cells #[.int .i64 0, .int .i64 0, .int .i64 0, .int .i64 0, .int .i64 0, .int .i64 0] 26 (0, 0))) ∧ Hid (wx.heap[w.heap.size + 1 + 1]? = some (.cells #[.int .i64 0, .int .i64 0, .int .i64 0, .int .i64 0, .int .i64 0, .int .i64 0] 26 (0, 0))) ∧ Hid (wx.heap[p]? = some (.cells #[.int .i64 d, .int .i64 e, .int .i64 f] 95 (0, 0))) ∧ Hid (wx.heap[q]? = some (.cells #[.int .i64 a, .int .i64 b, .int .i64 c] 95 (0, 0))) ∧ Hid (Below w.heap.size w wx))
    case first =>
      obtain ⟨wz, hwz⟩ : ∃ wz, wz = wr.drewN nq := ⟨_, rfl⟩
      have z1 : wz.cell? ⟨w3.heap.size, 0, none⟩ = some (.int .i64 a) := by rw [hwz]; exact b1
      have z2 : wz.cell? ⟨w3.heap.size, 1, none⟩ = some (.int .i64 b) := by rw [hwz]; exact b2
      have z3 : wz.cell? ⟨w3.heap.size, 2, none⟩ = some (.int .i64 c) := by rw [hwz]; exact b3
      have z4 : wz.cell? ⟨w3.heap.size + 1, 0, none⟩ = some (.int .i64 d) := by rw [hwz]; exact c1
      have z5 : wz.cell? ⟨w3.heap.size + 1, 1, none⟩ = some (.int .i64 e) := by rw [hwz]; exact c2
      have z6 : wz.cell? ⟨w3.heap.size + 1, 2, none⟩ = some (.int .i64 f) := by rw [hwz]; exact c3
      have n1 := World.new_ne wz _ z1
      have n2 := World.new_ne wz _ z4
      rw [← hwz]
      replace hwz := Lib.hid hwz
      clear b1 b2 b3 c1 c2 c3 f1 f2 f3 f4 f5 f6
      go_region_held3 (fun w' => w'.cell? ⟨w3.heap.size, 0, none⟩ = some (.int .i64 a) ∧ w'.cell? ⟨w3.heap.size, 1, none⟩ = some (.int .i64 b) ∧ w'.cell? ⟨w3.heap.size, 2, none⟩ = some (.int .i64 c) ∧ w'.cell? ⟨w3.heap.size + 1, 0, none⟩ = some (.int .i64 d) ∧ w'.cell? ⟨w3.heap.size + 1, 1, none⟩ = some (.int .i64 e) ∧ w'.cell? ⟨w3.heap.size + 1, 2, none⟩ = some (.int .i64 f)) (go_keep) (fail)
      all_goals go_wp2_with fail
      all_goals go_meet
      all_goals
        have q1 : wz.heap[w.heap.size]? = some (.cells #[.int .i64 a, .int .i64 b, .int .i64 c, .int .i64 d, .int .i64 e, .int .i64 f] 26 (0, 0)) := by rw [hwz.out]; exact p1.out
        have q2 : wz.heap[w.heap.size + 1]? = some (.cells #[.int .i64 0, .int .i64 0, .int .i64 0, .int .i64 0, .int .i64 0, .int .i64 0] 26 (0, 0)) := by rw [hwz.out]; exact p2.out
        have q3 : wz.heap[w.heap.size + 1 + 1]? = some (.cells #[.int .i64 0, .int .i64 0, .int .i64 0, .int .i64 0, .int .i64 0, .int .i64 0] 26 (0, 0)) := by rw [hwz.out]; exact p3.out
        have q4 : Below w.heap.size w wz := by rw [hwz.out]; exact hW2.out
        have q5 := World.block_lt_of_cell? wz _ z4
        simp only at q5
      · exact ⟨wz.heap.size, wz.heap.size + 1, by omega, by omega, by omega, rfl, rfl, Lib.hid (blk_alloc (blk_alloc q1 _) _), Lib.hid (blk_alloc (blk_alloc q2 _) _), Lib.hid (blk_alloc (blk_alloc q3 _) _), Lib.hid (blk_alloc (blk_new wz _) _), Lib.hid (blk_new1 wz _ _), Lib.hid (Below.drew (Buf.then_ (Buf.then_ q4 (new_block _)) (new_block _)))⟩
      · exact ⟨wz.heap.size + 1, wz.heap.size, by omega, by omega, by omega, rfl, rfl, Lib.hid (blk_alloc (blk_alloc q1 _) _), Lib.hid (blk_alloc (blk_alloc q2 _) _), Lib.hid (blk_alloc (blk_alloc q3 _) _), Lib.hid (blk_new1 wz _ _), Lib.hid (blk_alloc (blk_new wz _) _), Lib.hid (Below.drew (Buf.then_ (Buf.then_ q4 (new_block _)) (new_block _)))⟩
    case rest =>
      obtain ⟨p, q, hpq, hp0, hq0, rfl, rfl, p1, p2, p3, gp, gq, hW⟩ := hcut
      obtain ⟨b1, b2, b3, f1, f2, f3⟩ := cells3 gp.out
      obtain ⟨c1, c2, c3, f4, f5, f6⟩ := cells3 gq.out
      have hqp : q ≠ p := Ne.symm hpq
      have d1 : (wc.setCell ⟨p, 1, none⟩ (.int .i64 (b + (e - b) / 2))).cell? ⟨q, 1, none⟩ = some (.int .i64 b) := by rw [World.cell?_setCell_far _ _ _ _ hpq]; exact c2
      have d2 : (wc.setCell ⟨p, 1, none⟩ (.int .i64 (b + (e - b) / 2))).frozen? ⟨q, 1, none⟩ = false := by rw [World.frozen?_setCell]; exact f5
      go_wp2_with fail
      obtain ⟨wz, hwz⟩ : ∃ wz, wz = (wc.setCell ⟨p, 1, none⟩ (.int .i64 (b + (e - b) / 2))).setCell ⟨q, 1, none⟩ (.int .i64 ((b + (e - b) / 2) + 1)) := ⟨_, rfl⟩
      have zp : wz.heap[p]? = some (.cells #[.int .i64 d, .int .i64 (b + (e - b) / 2), .int .i64 f] 95 (0, 0)) := by rw [hwz, Below.heap_setCell _ _ _ p (by simpa using hpq)]; exact (heap_setCell_same _ p 1 _ _ _ gp.out).trans rfl
      have zq : wz.heap[q]? = some (.cells #[.int .i64 a, .int .i64 ((b + (e - b) / 2) + 1), .int .i64 c] 95 (0, 0)) := by rw [hwz]; exact (heap_setCell_same _ q 1 _ _ _ ((Below.heap_setCell _ _ _ q (by simpa using hqp)).trans gq.out)).trans rfl
      have z1 : wz.heap[w.heap.size]? = some (.cells #[.int .i64 a, .int .i64 b, .int .i64 c, .int .i64 d, .int .i64 e, .int .i64 f] 26 (0, 0)) := by rw [hwz, Below.heap_setCell _ _ _ _ (by simp; omega), Below.heap_setCell _ _ _ _ (by simp; omega)]; exact p1.out
      have z2 : wz.heap[w.heap.size + 1]? = some (.cells #[.int .i64 0, .int .i64 0, .int .i64 0, .int .i64 0, .int .i64 0, .int .i64 0] 26 (0, 0)) := by rw [hwz, Below.heap_setCell _ _ _ _ (by simp; omega), Below.heap_setCell _ _ _ _ (by simp; omega)]; exact p2.out
      have z3 : wz.heap[w.heap.size + 1 + 1]? = some (.cells #[.int .i64 0, .int .i64 0, .int .i64 0, .int .i64 0, .int .i64 0, .int .i64 0] 26 (0, 0)) := by rw [hwz, Below.heap_setCell _ _ _ _ (by simp; omega), Below.heap_setCell _ _ _ _ (by simp; omega)]; exact p3.out
      have z4 : Below w.heap.size w wz := by rw [hwz]; exact (hW.out.setCell (by simp; omega) _).setCell (by simp; omega) _
      rw [← hwz]
      clear hwz b1 b2 b3 f1 f2 f3 c1 c2 c3 f4 f5 f6 d1 d2 gp gq p1 p2 p3 hW
      obtain ⟨b1, b2, b3, _, _, _⟩ := cells3 zp
      obtain ⟨c1, c2, c3, _, _, _⟩ := cells3 zq
      obtain ⟨d1, d2, d3, d4, d5, d6⟩ := cells6 z1
      replace z1 := Lib.hid z1
      replace z2 := Lib.hid z2
      replace z3 := Lib.hid z3
      replace z4 := Lib.hid z4
      clear zp zq
      have m5 : w.heap.size + 1 ≠ w.heap.size := by omega
      have m6 : w.heap.size + 1 + 1 ≠ w.heap.size := by omega
      have m1 : w.heap.size + 1 ≠ p := by omega
      have m2 : w.heap.size + 1 ≠ q := by omega
      have m3 : w.heap.size + 1 + 1 ≠ p := by omega
      have m4 : w.heap.size + 1 + 1 ≠ q := by omega
      clear hp0 hq0 hpq hqp
      go_region_held3 (fun w' => w'.cell? ⟨p, 0, none⟩ = some (.int .i64 d) ∧ w'.cell? ⟨p, 1, none⟩ = some (.int .i64 (b + (e - b) / 2)) ∧ w'.cell? ⟨p, 2, none⟩ = some (.int .i64 f) ∧ w'.cell? ⟨q, 0, none⟩ = some (.int .i64 a) ∧ w'.cell? ⟨q, 1, none⟩ = some (.int .i64 ((b + (e - b) / 2) + 1)) ∧ w'.cell? ⟨q, 2, none⟩ = some (.int .i64 c) ∧ w'.cell? ⟨w.heap.size, 0, none⟩ = some (.int .i64 a) ∧ w'.cell? ⟨w.heap.size, 1, none⟩ = some (.int .i64 b) ∧ w'.cell? ⟨w.heap.size, 2, none⟩ = some (.int .i64 c) ∧ w'.cell? ⟨w.heap.size, 3, none⟩ = some (.int .i64 d) ∧ w'.cell? ⟨w.heap.size, 4, none⟩ = some (.int .i64 e) ∧ w'.cell? ⟨w.heap.size, 5, none⟩ = some (.int .i64 f))
        (first
          | (go_split_ands; ((with_reducible refine ⟨(st6_far ?_).trans ?_, (st6_far ?_).trans ?_, (st6_far ?_).trans ?_, (st6_far ?_).trans ?_, (st6_far ?_).trans ?_, (st6_far ?_).trans ?_, (st6_far ?_).trans ?_, (st6_far ?_).trans ?_, (st6_far ?_).trans ?_, (st6_far ?_).trans ?_, (st6_far ?_).trans ?_, (st6_far ?_).trans ?_⟩) <;> (first | (with_reducible assumption) | (show _ ≠ _; omega))))
          | (go_split_ands; ((with_reducible refine ⟨keepc hb ?_, keepc hb ?_, keepc hb ?_, keepc hb ?_, keepc hb ?_, keepc hb ?_, keepc hb ?_, keepc hb ?_, keepc hb ?_, keepc hb ?_, keepc hb ?_, keepc hb ?_⟩) <;> (with_reducible assumption)))
          | go_keep)
        ((go_at_call 55; refine (position_any _ _ _ _).mono ?_; rintro r w5 ⟨rfl, hb⟩; (first | replace z2 := Lib.hid (blk_b hb z2.out) | skip); (first | replace z3 := Lib.hid (blk_b hb z3.out) | skip); (first | replace z4 := Lib.hid (Buf.then_ z4.out hb) | replace z4 := Lib.hid (Buf.then_ z4.out.drew hb)); obtain ⟨e1, e2, e3, e4, e5, e6, e7, e8, e9, e10, e11, e12⟩ := cells6f z2.out; obtain ⟨h1, h2, h3, h4, h5, h6, h7, h8, h9, h10, h11, h12⟩ := cells6f z3.out))
      have y1 := Lib.hid (st6 ((st6_other w5 (k := w.heap.size + 1 + 1) (g := w.heap.size + 1) (by omega) (.int .i64 a) (.int .i64 b) (.int .i64 c) (.int .i64 d) (.int .i64 (b + (e - b) / 2)) (.int .i64 f)).trans z3.out) (.int .i64 a) (.int .i64 ((b + (e - b) / 2) + 1)) (.int .i64 c) (.int .i64 d) (.int .i64 e) (.int .i64 f))
      have y2 := Lib.hid ((st6_other _ (k := w.heap.size + 1) (g := w.heap.size + 1 + 1) (by omega) (.int .i64 a) (.int .i64 ((b + (e - b) / 2) + 1)) (.int .i64 c) (.int .i64 d) (.int .i64 e) (.int .i64 f)).trans (st6 z2.out (.int .i64 a) (.int .i64 b) (.int .i64 c) (.int .i64 d) (.int .i64 (b + (e - b) / 2)) (.int .i64 f)))
      have y3 := Lib.hid (st6_below (st6_below z4.out (g := w.heap.size + 1) (by omega) (.int .i64 a) (.int .i64 b) (.int .i64 c) (.int .i64 d) (.int .i64 (b + (e - b) / 2)) (.int .i64 f)) (g := w.heap.size + 1 + 1) (by omega) (.int .i64 a) (.int .i64 ((b + (e - b) / 2) + 1)) (.int .i64 c) (.int .i64 d) (.int .i64 e) (.int .i64 f))
      go_wp2
      exact bodyPost_ret (results_two_rows_tmp rfl _ _ (w.heap.size + 1) (w.heap.size + 1 + 1) _ _ _ _ _ _ _ _ rfl y2.out rfl (by rfl) rfl rfl y1.out rfl (by rfl) rfl) rfl ⟨rfl, y3.out⟩
set_option maxHeartbeats 8000000 in
set_option maxRecDepth 100000 in
theorem split_D (a b c d e f : Int) (h : BV a b c d e f) (h2 : 2 ≤ pts a b c d e f) (k1 : d - a < e - b) (k2 : e - b < f - c) (w : World) :
    Calls Try.prog 31 #[.agg #[.int .i64 a, .int .i64 b, .int .i64 c, .int .i64 d, .int .i64 e, .int .i64 f]] w fun r w' => r = .returned (.tuple #[.agg #[.int .i64 a, .int .i64 b, .int .i64 c, .int .i64 d, .int .i64 e, .int .i64 (c + (f - c) / 2)], .agg #[.int .i64 a, .int .i64 b, .int .i64 ((c + (f - c) / 2) + 1), .int .i64 d, .int .i64 e, .int .i64 f], .bool true]) ∧ Below w.heap.size w w' := by
  have hM := Lib.hid (middle_yes c f)
  have V1 := Lib.hid (points_yes a b c d e f h)
  obtain ⟨⟨ax0, ax1, ay0, ay1, az0, az1⟩, ⟨dx0, dx1, dy0, dy1, dz0, dz1⟩, hx, hy, hz⟩ := h
  generalize pts a b c d e f = np at *
  have p1 := Lib.hid (blk_alloc (blk_alloc (blk_new w (.cells #[.int .i64 a, .int .i64 b, .int .i64 c, .int .i64 d, .int .i64 e, .int .i64 f] 26)) (.cells #[.int .i64 0, .int .i64 0, .int .i64 0, .int .i64 0, .int .i64 0, .int .i64 0] 26)) (.cells #[.int .i64 0, .int .i64 0, .int .i64 0, .int .i64 0, .int .i64 0, .int .i64 0] 26))
  have p2 := Lib.hid (blk_alloc (blk_new1 w (.cells #[.int .i64 a, .int .i64 b, .int .i64 c, .int .i64 d, .int .i64 e, .int .i64 f] 26) (.cells #[.int .i64 0, .int .i64 0, .int .i64 0, .int .i64 0, .int .i64 0, .int .i64 0] 26)) (.cells #[.int .i64 0, .int .i64 0, .int .i64 0, .int .i64 0, .int .i64 0, .int .i64 0] 26))
  have p3 := Lib.hid (blk_new2 w (.cells #[.int .i64 a, .int .i64 b, .int .i64 c, .int .i64 d, .int .i64 e, .int .i64 f] 26) (.cells #[.int .i64 0, .int .i64 0, .int .i64 0, .int .i64 0, .int .i64 0, .int .i64 0] 26) (.cells #[.int .i64 0, .int .i64 0, .int .i64 0, .int .i64 0, .int .i64 0, .int .i64 0] 26))
  have hA : Hid (Below w.heap.size w (((w.alloc (.cells #[.int .i64 a, .int .i64 b, .int .i64 c, .int .i64 d, .int .i64 e, .int .i64 f] 26)).alloc (.cells #[.int .i64 0, .int .i64 0, .int .i64 0, .int .i64 0, .int .i64 0, .int .i64 0] 26)).alloc (.cells #[.int .i64 0, .int .i64 0, .int .i64 0, .int .i64 0, .int .i64 0, .int .i64 0] 26))) := Lib.hid (Buf.then_ (Buf.then_ (new_block _) (new_block _)) (new_block _))
  go_enter Try.func31, Try.ntmps31
  go_wp2_with fail
  with_reducible refine (V1.out _).mono ?_
  rintro r w1 ⟨rfl, hb⟩
  replace p1 := Lib.hid (blk_b hb p1.out)
  replace p2 := Lib.hid (blk_b hb p2.out)
  replace p3 := Lib.hid (blk_b hb p3.out)
  replace hA := Lib.hid (Buf.then_ hA.out hb)
  clear hb
  obtain ⟨u1, u2, u3, u4, u5, u6⟩ := cells6 p1.out
  go_wp2_with fail
  refine (ends_any a b c d e f _).mono ?_
  rintro r w3 ⟨rfl, hb⟩
  have hlt := Lib.hid (Array.getElem?_eq_some_iff.1 (blk_b hb p3.out)).1
  replace p1 := Lib.hid (blk_alloc (blk_alloc (blk_b hb p1.out) (.cells #[.int .i64 a, .int .i64 b, .int .i64 c] 95)) (.cells #[.int .i64 d, .int .i64 e, .int .i64 f] 95))
  replace p2 := Lib.hid (blk_alloc (blk_alloc (blk_b hb p2.out) (.cells #[.int .i64 a, .int .i64 b, .int .i64 c] 95)) (.cells #[.int .i64 d, .int .i64 e, .int .i64 f] 95))
  replace p3 := Lib.hid (blk_alloc (blk_alloc (blk_b hb p3.out) (.cells #[.int .i64 a, .int .i64 b, .int .i64 c] 95)) (.cells #[.int .i64 d, .int .i64 e, .int .i64 f] 95))
  have g2 := Lib.hid (blk_alloc (blk_new w3 (.cells #[.int .i64 a, .int .i64 b, .int .i64 c] 95)) (.cells #[.int .i64 d, .int .i64 e, .int .i64 f] 95))
  have g3 := Lib.hid (blk_new1 w3 (.cells #[.int .i64 a, .int .i64 b, .int .i64 c] 95) (.cells #[.int .i64 d, .int .i64 e, .int .i64 f] 95))
  have hW : Hid (Below w.heap.size w ((w3.alloc (.cells #[.int .i64 a, .int .i64 b, .int .i64 c] 95)).alloc (.cells #[.int .i64 d, .int .i64 e, .int .i64 f] 95))) := Lib.hid (Buf.then_ (Buf.then_ (Buf.then_ hA.out hb) (new_block _)) (new_block _))
  clear hb hA u1 u2 u3 u4 u5 u6 V1
  go_wp2_with fail
  go_loopw [7, 22] (fun u i wr => ∃ k : Nat, k ≤ 3 ∧ i = .int .i64 k ∧ u = .int .i64 (match k with | 0 => 0 | 1 => 0 | 2 => 1 | _ => 2) ∧ Hid (wr.heap[w.heap.size]? = some (.cells #[.int .i64 a, .int .i64 b, .int .i64 c, .int .i64 d, .int .i64 e, .int .i64 f] 26 (0, 0))) ∧ Hid (wr.heap[w.heap.size + 1]? = some (.cells #[.int .i64 0, .int .i64 0, .int .i64 0, .int .i64 0, .int .i64 0, .int .i64 0] 26 (0, 0))) ∧ Hid (wr.heap[w.heap.size + 1 + 1]? = some (.cells #[.int .i64 0, .int .i64 0, .int .i64 0, .int .i64 0, .int .i64 0, .int .i64 0] 26 (0, 0))) ∧ Hid (wr.heap[w3.heap.size]? = some (.cells #[.int .i64 a, .int .i64 b, .int .i64 c] 95 (0, 0))) ∧ Hid (wr.heap[w3.heap.size + 1]? = some (.cells #[.int .i64 d, .int .i64 e, .int .i64 f] 95 (0, 0))) ∧ Hid (Below w.heap.size w wr)) (fun _ i _ => (3 - intOf i).toNat)
  case atStart => exact ⟨0, by omega, rfl, rfl, p1, p2, p3, g2, g3, hW⟩
  case round =>
    clear p1 p2 p3 g2 g3 hW
    obtain ⟨k, hk, rfl, hu, p1, p2, p3, g2, g3, hW⟩ := hrel
    obtain ⟨b1, b2, b3, f1, f2, f3⟩ := cells3 g2.out
    obtain ⟨c1, c2, c3, f4, f5, f6⟩ := cells3 g3.out
    by_cases h0 : k = 0
    · subst h0
      replace hu : _ = Value.int .i64 0 := hu
      subst hu
      go_wp2
      go_quiet (fail)
      go_wp2
      go_roundw
      case rel => exact ⟨1, by omega, rfl, rfl, p1, p2, p3, g2, g3, Lib.hid (Buf.below_drewN hW.out _)⟩
      case measure => simp [intOf]
    by_cases h1 : k = 1
    · subst h1
      replace hu : _ = Value.int .i64 0 := hu
      subst hu
      go_wp2
      go_quiet (fail)
      go_wp2
      go_roundw
      case rel => exact ⟨2, by omega, rfl, rfl, p1, p2, p3, g2, g3, Lib.hid (Buf.below_drewN hW.out _)⟩
      case measure => simp [intOf]
    by_cases h2 : k = 2
    · subst h2
      replace hu : _ = Value.int .i64 1 := hu
      subst hu
      go_wp2
      go_quiet (fail)
      go_wp2
      go_roundw
      case rel => exact ⟨3, by omega, rfl, rfl, p1, p2, p3, g2, g3, Lib.hid (Buf.below_drewN hW.out _)⟩
      case measure => simp [intOf]
    obtain rfl : k = 3 := by omega
    replace hu : _ = Value.int .i64 2 := hu
    subst hu
    have hlt' := hlt.out
    go_wp2_with fail
    have M4 : Hid (∀ w, Calls Try.prog 54 #[.int .i64 c, .int .i64 f] w fun r' w' => r' = .returned (.int .i64 (c + (f - c) / 2)) ∧ w' = w) := Lib.hid fun w => hM.out w (by omega) (by omega) (by omega)
    go_quiet ((go_at_call 54; exact Calls.quiet_of_same (M4.out _)))
    have hW2 := Lib.hid (Buf.below_drewN hW.out nq)
    have mb0 : -1048576 ≤ (c + (f - c) / 2) := by omega
    have mb1 : (c + (f - c) / 2) ≤ 1048576 := by omega
    go_wp2_with fail
    go_cut [10, 11] (fun s10 s11 wx => ∃ p q : Nat, p ≠ q ∧ w3.heap.size + 1 < p ∧ w3.heap.size + 1 < q ∧ s10 = .pointer (some ⟨p, 0, none⟩) ∧ s11 = .pointer (some ⟨q, 0, none⟩) ∧ Hid (wx.heap[w.heap.size]? = some (.cells #[.int .i64 a, .int .i64 b, .int .i64 c, .int .i64 d, .int .i64 e, .int .i64 f] 26 (0, 0))) ∧ Hid (wx.heap[w.heap.size + 1]? = some (.cells #[.int .i64 0, .int .i64 0, .int .i64 0, .int .i64 0, .int .i64 0, .int .i64 0] 26 (0, 0))) ∧ Hid (wx.heap[w.heap.size + 1 + 1]? = some (.cells #[.int .i64 0, .int .i64 0, .int .i64 0, .int .i64 0, .int .i64 0, .int .i64 0] 26 (0, 0))) ∧ Hid (wx.heap[p]? = some (.cells #[.int .i64 d, .int .i64 e, .int .i64 f] 95 (0, 0))) ∧ Hid (wx.heap[q]? = some (.cells #[.int .i64 a, .int .i64 b, .int .i64 c] 95 (0, 0))) ∧ Hid (Below w.heap.size w wx))
    case first =>
      obtain ⟨wz, hwz⟩ : ∃ wz, wz = wr.drewN nq := ⟨_, rfl⟩
      have z1 : wz.cell? ⟨w3.heap.size, 0, none⟩ = some (.int .i64 a) := by rw [hwz]; exact b1
      have z2 : wz.cell? ⟨w3.heap.size, 1, none⟩ = some (.int .i64 b) := by rw [hwz]; exact b2
      have z3 : wz.cell? ⟨w3.heap.size, 2, none⟩ = some (.int .i64 c) := by rw [hwz]; exact b3
      have z4 : wz.cell? ⟨w3.heap.size + 1, 0, none⟩ = some (.int .i64 d) := by rw [hwz]; exact c1
      have z5 : wz.cell? ⟨w3.heap.size + 1, 1, none⟩ = some (.int .i64 e) := by rw [hwz]; exact c2
      have z6 : wz.cell? ⟨w3.heap.size + 1, 2, none⟩ = some (.int .i64 f) := by rw [hwz]; exact c3
      have n1 := World.new_ne wz _ z1
      have n2 := World.new_ne wz _ z4
      rw [← hwz]
      replace hwz := Lib.hid hwz
      clear b1 b2 b3 c1 c2 c3 f1 f2 f3 f4 f5 f6
      go_region_held3 (fun w' => w'.cell? ⟨w3.heap.size, 0, none⟩ = some (.int .i64 a) ∧ w'.cell? ⟨w3.heap.size, 1, none⟩ = some (.int .i64 b) ∧ w'.cell? ⟨w3.heap.size, 2, none⟩ = some (.int .i64 c) ∧ w'.cell? ⟨w3.heap.size + 1, 0, none⟩ = some (.int .i64 d) ∧ w'.cell? ⟨w3.heap.size + 1, 1, none⟩ = some (.int .i64 e) ∧ w'.cell? ⟨w3.heap.size + 1, 2, none⟩ = some (.int .i64 f)) (go_keep) (fail)
      all_goals go_wp2_with fail
      all_goals go_meet
      all_goals
        have q1 : wz.heap[w.heap.size]? = some (.cells #[.int .i64 a, .int .i64 b, .int .i64 c, .int .i64 d, .int .i64 e, .int .i64 f] 26 (0, 0)) := by rw [hwz.out]; exact p1.out
        have q2 : wz.heap[w.heap.size + 1]? = some (.cells #[.int .i64 0, .int .i64 0, .int .i64 0, .int .i64 0, .int .i64 0, .int .i64 0] 26 (0, 0)) := by rw [hwz.out]; exact p2.out
        have q3 : wz.heap[w.heap.size + 1 + 1]? = some (.cells #[.int .i64 0, .int .i64 0, .int .i64 0, .int .i64 0, .int .i64 0, .int .i64 0] 26 (0, 0)) := by rw [hwz.out]; exact p3.out
        have q4 : Below w.heap.size w wz := by rw [hwz.out]; exact hW2.out
        have q5 := World.block_lt_of_cell? wz _ z4
        simp only at q5
      · exact ⟨wz.heap.size, wz.heap.size + 1, by omega, by omega, by omega, rfl, rfl, Lib.hid (blk_alloc (blk_alloc q1 _) _), Lib.hid (blk_alloc (blk_alloc q2 _) _), Lib.hid (blk_alloc (blk_alloc q3 _) _), Lib.hid (blk_alloc (blk_new wz _) _), Lib.hid (blk_new1 wz _ _), Lib.hid (Below.drew (Buf.then_ (Buf.then_ q4 (new_block _)) (new_block _)))⟩
      · exact ⟨wz.heap.size + 1, wz.heap.size, by omega, by omega, by omega, rfl, rfl, Lib.hid (blk_alloc (blk_alloc q1 _) _), Lib.hid (blk_alloc (blk_alloc q2 _) _), Lib.hid (blk_alloc (blk_alloc q3 _) _), Lib.hid (blk_new1 wz _ _), Lib.hid (blk_alloc (blk_new wz _) _), Lib.hid (Below.drew (Buf.then_ (Buf.then_ q4 (new_block _)) (new_block _)))⟩
    case rest =>
      obtain ⟨p, q, hpq, hp0, hq0, rfl, rfl, p1, p2, p3, gp, gq, hW⟩ := hcut
      obtain ⟨b1, b2, b3, f1, f2, f3⟩ := cells3 gp.out
      obtain ⟨c1, c2, c3, f4, f5, f6⟩ := cells3 gq.out
      have hqp : q ≠ p := Ne.symm hpq
      have d1 : (wc.setCell ⟨p, 2, none⟩ (.int .i64 (c + (f - c) / 2))).cell? ⟨q, 2, none⟩ = some (.int .i64 c) := by rw [World.cell?_setCell_far _ _ _ _ hpq]; exact c3
      have d2 : (wc.setCell ⟨p, 2, none⟩ (.int .i64 (c + (f - c) / 2))).frozen? ⟨q, 2, none⟩ = false := by rw [World.frozen?_setCell]; exact f6
      go_wp2_with fail
      obtain ⟨wz, hwz⟩ : ∃ wz, wz = (wc.setCell ⟨p, 2, none⟩ (.int .i64 (c + (f - c) / 2))).setCell ⟨q, 2, none⟩ (.int .i64 ((c + (f - c) / 2) + 1)) := ⟨_, rfl⟩
      have zp : wz.heap[p]? = some (.cells #[.int .i64 d, .int .i64 e, .int .i64 (c + (f - c) / 2)] 95 (0, 0)) := by rw [hwz, Below.heap_setCell _ _ _ p (by simpa using hpq)]; exact (heap_setCell_same _ p 2 _ _ _ gp.out).trans rfl
      have zq : wz.heap[q]? = some (.cells #[.int .i64 a, .int .i64 b, .int .i64 ((c + (f - c) / 2) + 1)] 95 (0, 0)) := by rw [hwz]; exact (heap_setCell_same _ q 2 _ _ _ ((Below.heap_setCell _ _ _ q (by simpa using hqp)).trans gq.out)).trans rfl
      have z1 : wz.heap[w.heap.size]? = some (.cells #[.int .i64 a, .int .i64 b, .int .i64 c, .int .i64 d, .int .i64 e, .int .i64 f] 26 (0, 0)) := by rw [hwz, Below.heap_setCell _ _ _ _ (by simp; omega), Below.heap_setCell _ _ _ _ (by simp; omega)]; exact p1.out
      have z2 : wz.heap[w.heap.size + 1]? = some (.cells #[.int .i64 0, .int .i64 0, .int .i64 0, .int .i64 0, .int .i64 0, .int .i64 0] 26 (0, 0)) := by rw [hwz, Below.heap_setCell _ _ _ _ (by simp; omega), Below.heap_setCell _ _ _ _ (by simp; omega)]; exact p2.out
      have z3 : wz.heap[w.heap.size + 1 + 1]? = some (.cells #[.int .i64 0, .int .i64 0, .int .i64 0, .int .i64 0, .int .i64 0, .int .i64 0] 26 (0, 0)) := by rw [hwz, Below.heap_setCell _ _ _ _ (by simp; omega), Below.heap_setCell _ _ _ _ (by simp; omega)]; exact p3.out
      have z4 : Below w.heap.size w wz := by rw [hwz]; exact (hW.out.setCell (by simp; omega) _).setCell (by simp; omega) _
      rw [← hwz]
      clear hwz b1 b2 b3 f1 f2 f3 c1 c2 c3 f4 f5 f6 d1 d2 gp gq p1 p2 p3 hW
      obtain ⟨b1, b2, b3, _, _, _⟩ := cells3 zp
      obtain ⟨c1, c2, c3, _, _, _⟩ := cells3 zq
      obtain ⟨d1, d2, d3, d4, d5, d6⟩ := cells6 z1
      replace z1 := Lib.hid z1
      replace z2 := Lib.hid z2
      replace z3 := Lib.hid z3
      replace z4 := Lib.hid z4
      clear zp zq
      have m5 : w.heap.size + 1 ≠ w.heap.size := by omega
      have m6 : w.heap.size + 1 + 1 ≠ w.heap.size := by omega
      have m1 : w.heap.size + 1 ≠ p := by omega
      have m2 : w.heap.size + 1 ≠ q := by omega
      have m3 : w.heap.size + 1 + 1 ≠ p := by omega
      have m4 : w.heap.size + 1 + 1 ≠ q := by omega
      clear hp0 hq0 hpq hqp
      go_region_held3 (fun w' => w'.cell? ⟨p, 0, none⟩ = some (.int .i64 d) ∧ w'.cell? ⟨p, 1, none⟩ = some (.int .i64 e) ∧ w'.cell? ⟨p, 2, none⟩ = some (.int .i64 (c + (f - c) / 2)) ∧ w'.cell? ⟨q, 0, none⟩ = some (.int .i64 a) ∧ w'.cell? ⟨q, 1, none⟩ = some (.int .i64 b) ∧ w'.cell? ⟨q, 2, none⟩ = some (.int .i64 ((c + (f - c) / 2) + 1)) ∧ w'.cell? ⟨w.heap.size, 0, none⟩ = some (.int .i64 a) ∧ w'.cell? ⟨w.heap.size, 1, none⟩ = some (.int .i64 b) ∧ w'.cell? ⟨w.heap.size, 2, none⟩ = some (.int .i64 c) ∧ w'.cell? ⟨w.heap.size, 3, none⟩ = some (.int .i64 d) ∧ w'.cell? ⟨w.heap.size, 4, none⟩ = some (.int .i64 e) ∧ w'.cell? ⟨w.heap.size, 5, none⟩ = some (.int .i64 f))
        (first
          | (go_split_ands; ((with_reducible refine ⟨(st6_far ?_).trans ?_, (st6_far ?_).trans ?_, (st6_far ?_).trans ?_, (st6_far ?_).trans ?_, (st6_far ?_).trans ?_, (st6_far ?_).trans ?_, (st6_far ?_).trans ?_, (st6_far ?_).trans ?_, (st6_far ?_).trans ?_, (st6_far ?_).trans ?_, (st6_far ?_).trans ?_, (st6_far ?_).trans ?_⟩) <;> (first | (with_reducible assumption) | (show _ ≠ _; omega))))
          | (go_split_ands; ((with_reducible refine ⟨keepc hb ?_, keepc hb ?_, keepc hb ?_, keepc hb ?_, keepc hb ?_, keepc hb ?_, keepc hb ?_, keepc hb ?_, keepc hb ?_, keepc hb ?_, keepc hb ?_, keepc hb ?_⟩) <;> (with_reducible assumption)))
          | go_keep)
        ((go_at_call 55; refine (position_any _ _ _ _).mono ?_; rintro r w5 ⟨rfl, hb⟩; (first | replace z2 := Lib.hid (blk_b hb z2.out) | skip); (first | replace z3 := Lib.hid (blk_b hb z3.out) | skip); (first | replace z4 := Lib.hid (Buf.then_ z4.out hb) | replace z4 := Lib.hid (Buf.then_ z4.out.drew hb)); obtain ⟨e1, e2, e3, e4, e5, e6, e7, e8, e9, e10, e11, e12⟩ := cells6f z2.out; obtain ⟨h1, h2, h3, h4, h5, h6, h7, h8, h9, h10, h11, h12⟩ := cells6f z3.out))
      have y1 := Lib.hid (st6 ((st6_other w5 (k := w.heap.size + 1 + 1) (g := w.heap.size + 1) (by omega) (.int .i64 a) (.int .i64 b) (.int .i64 c) (.int .i64 d) (.int .i64 e) (.int .i64 (c + (f - c) / 2))).trans z3.out) (.int .i64 a) (.int .i64 b) (.int .i64 ((c + (f - c) / 2) + 1)) (.int .i64 d) (.int .i64 e) (.int .i64 f))
      have y2 := Lib.hid ((st6_other _ (k := w.heap.size + 1) (g := w.heap.size + 1 + 1) (by omega) (.int .i64 a) (.int .i64 b) (.int .i64 ((c + (f - c) / 2) + 1)) (.int .i64 d) (.int .i64 e) (.int .i64 f)).trans (st6 z2.out (.int .i64 a) (.int .i64 b) (.int .i64 c) (.int .i64 d) (.int .i64 e) (.int .i64 (c + (f - c) / 2))))
      have y3 := Lib.hid (st6_below (st6_below z4.out (g := w.heap.size + 1) (by omega) (.int .i64 a) (.int .i64 b) (.int .i64 c) (.int .i64 d) (.int .i64 e) (.int .i64 (c + (f - c) / 2))) (g := w.heap.size + 1 + 1) (by omega) (.int .i64 a) (.int .i64 b) (.int .i64 ((c + (f - c) / 2) + 1)) (.int .i64 d) (.int .i64 e) (.int .i64 f))
      go_wp2
      exact bodyPost_ret (results_two_rows_tmp rfl _ _ (w.heap.size + 1) (w.heap.size + 1 + 1) _ _ _ _ _ _ _ _ rfl y2.out rfl (by rfl) rfl rfl y1.out rfl (by rfl) rfl) rfl ⟨rfl, y3.out⟩
end Geo
end Go.Proofs.Ytldgihlhioeipaa
