/- Contract of Anchors. -/
import Derived.Test.YtdcjpjdkamlheaaClockN
set_option linter.unusedVariables false
namespace Go.Proofs.Ytdcjpjdkamlheaa
open Go.RowKit Wi Dice
namespace Clock
theorem am_append {W w w1 w2 w3 : World} {B d : Nat} {a : Option Addr} {len cap : Nat} {zs : List Int} {v v' : Value} {P : List (Int × Int × Int)} (x y z : Int) (h : AM W w B d a len cap zs w1 v P) (hb : Below w1.heap.size w1 w2) (hg : w2.grownBy w3 v.ownBlock) (ho : w3.ownsRow B 56 3 v' (P.length + 1) (Tri.cells P ++ [.int .i64 x, .int .i64 y, .int .i64 z])) (hB : w.heap.size ≤ B) :
    AM W w B d a len cap zs w3 v' (P ++ [(x, y, z)]) := by
  have h2 := h.below hb
  have hr : ∀ k, v.ownBlock = some k → B ≤ k := fun k hk => (h.o.lt k hk).1
  refine ⟨⟨di_grown h2.l.di hg hr h.dB, ⟨by first | exact hg.os.trans h2.l.far.os | exact h2.l.far.os.trans hg.os, by first | exact hg.tape.trans h2.l.far.tape | exact h2.l.far.tape.trans hg.tape, by first | exact hg.output.trans h2.l.far.output | exact h2.l.far.output.trans hg.output, Nat.le_trans h2.l.far.size hg.size, fun k hk hne => (hg.block k (Nat.lt_of_lt_of_le hk h2.l.far.size) (fun e => by have := hr k e.symm; omega)).trans (h2.l.far.block k hk hne)⟩⟩, ?_, h.dB⟩
  · rw [Tri.cells_snoc, List.length_append]; exact ho
set_option maxHeartbeats 4000000 in
set_option maxRecDepth 100000 in
theorem anchors_any (jb : Bool) {W w : World} {d : Nat} {a : Option Addr} {len cap : Nat} {zs : List Int} (h : Di W w d a len cap zs) :
    Calls Try.prog 10 #[.pointer (some ⟨d, 0, none⟩), .bool jb] w fun e w' => Anch jb w.heap.size w' e ∧ Dice.Left W w w' d a len cap zs := by
  obtain ⟨i0, hi, hz0, hz1, hz2⟩ := info_parts infoA
  have HD := Lib.hid h
  have I1 := Lib.hid (ints_alloc w [0, 0, 100, 50000] 3)
  have hlt := h.lt
  clear h
  go_enter Try.func10, Try.ntmps10
  go_wp2_with fail
  refine (pick_any w.heap.size [0, 0, 100, 50000] 4 4 (HD.out.below (new_block _)) (by simpa using I1.out) rfl (by omega) (by omega) (by omega) (by simp)).mono ?_
  rintro e w1 ⟨⟨x, rfl, hx⟩, hl⟩
  have x0 : 0 ≤ x := by simp at hx; omega
  have x1 : x ≤ 50000 := by simp at hx; omega
  have M0 : Hid (AM W w w.heap.size d a len cap zs w1 (.slice none 0 0) []) := Lib.hid ⟨((Left.refl HD.out).below (new_block _)).trans hl, World.ownsRow_nil _ _ _ _, hlt⟩
  clear hl I1 hx
  go_wp2_with fail
  refine (next_any 6 M0.out.l.di (by omega) (by omega)).mono ?_
  rintro e w2 ⟨⟨i, rfl, i1, i2⟩, hl⟩
  replace M0 := Lib.hid (M0.out.left hl)
  have G0 : Hid (PG jb [] 1000 1000000000000) := Lib.hid ⟨by simp, by omega, by simp, by simp, by simp, fun _ => by omega, fun k hk => by simp at hk, fun k hk => by simp at hk, fun _ k hk => by simp at hk⟩
  clear hl
  go_wp2_with fail
  go_loopw [4, 6, 7, 8] (fun v t u c wr => ∃ (k tag at_ : Int) (P : List (Int × Int × Int)), 0 ≤ k ∧ (P.length : Int) + k ≤ 5 ∧ t = .int .i64 tag ∧ u = .int .i64 at_ ∧ c = .int .i64 k ∧ Hid (PG jb P tag at_) ∧ Hid (AM W w w.heap.size d a len cap zs wr v P)) (fun _ _ _ c _ => (intOf c).toNat)
  case atStart => exact ⟨i, 1000, 1000000000000, [], by omega, by simp; omega, rfl, rfl, rfl, G0, M0⟩
  case round =>
    clear M0 G0
    obtain ⟨k, tag, at_, P, k0, k1, rfl, rfl, rfl, G, M⟩ := hrel
    obtain ⟨_, t0, t1, c0, c1, tr, _, _, _⟩ := G.out
    by_cases hk : 0 < k
    · go_wp2_with fail
      refine (next_any 20 M.out.l.di (by omega) (by omega)).mono ?_
      rintro e w3 ⟨⟨s, rfl, s0, s1⟩, hl⟩
      replace M := Lib.hid (M.out.left hl)
      clear hl
      cases jb
      · go_wp2_with fail
        refine (next_any 40 M.out.l.di (by omega) (by omega)).mono ?_
        rintro e w4 ⟨⟨a1, rfl, p0, p1⟩, hl⟩
        replace M := Lib.hid (M.out.left hl)
        clear hl
        go_wp2_with fail
        refine (next_any 40 M.out.l.di (by omega) (by omega)).mono ?_
        rintro e w5 ⟨⟨b1, rfl, r0, r1⟩, hl⟩
        replace M := Lib.hid (M.out.left hl)
        clear hl
        have hn5 : P.length < 5 := by omega
        replace G := Lib.hid (G.out.snoc (tag' := tag + 1000 * (1 + s)) (at' := at_ + 1000 * (1 + s)) (a := a1) (b := b1) hn5 (by omega) (by omega) (by omega) (by omega) (fun _ => by omega) p0 p1 r0 r1)
        have own := Lib.hid (M.out.o)
        have hsz : w.heap.size ≤ w5.heap.size := M.out.l.far.size
        have m1 : Hid (P.length + 1 ≤ maxLen) := Lib.hid (by unfold maxLen; omega)
        have m2 : Hid ((P.length + 1) * 24 ≤ 140737488355328) := Lib.hid (by omega)
        go_wp2_with (at_builtin; refine Tri.append3 rfl _ _ 28 rfl w.heap.size 56 _ i0 _ 24 Try.underlying28 hi hz0 hz1 hz2 rfl rfl own.out hsz _ _ _ rfl rfl rfl rfl m1.out m2.out ?_; intro v' w6 hown' hg)
        have M6 := Lib.hid (am_append _ _ _ M.out (new_block _) hg hown' (Nat.le_refl _))
        clear hown' hg M own
        go_roundw
        case rel => exact ⟨k - 1, tag + 1000 * (1 + s), at_ + 1000 * (1 + s), _, by omega, by simp; omega, rfl, rfl, rfl, G, M6⟩
        case measure => simp [intOf]; omega
      · go_wp2_with fail
        refine (next_any 4 M.out.l.di (by omega) (by omega)).mono ?_
        rintro e w7 ⟨⟨q, rfl, q0, q1⟩, hl⟩
        replace M := Lib.hid (M.out.left hl)
        clear hl
        by_cases hq : q = 0
        · subst hq
          have I3 := Lib.hid (ints_alloc w7 [-500, 700, 2000000] 3)
          have dl := M.out.l.di.lt
          go_wp2_with fail
          refine (pick_any w7.heap.size [-500, 700, 2000000] 3 3 (M.out.l.di.below (new_block _)) (by simpa using I3.out) rfl (by omega) (by omega) (by omega) (by simp)).mono ?_
          rintro e w8 ⟨⟨y, rfl, hy⟩, hl⟩
          have y0 : -500 ≤ y := by simp at hy; omega
          have y1 : y ≤ 2000000 := by simp at hy; omega
          replace M := Lib.hid ((M.out.below (new_block _)).left hl)
          clear hl I3 hy dl
          go_wp2_with fail
          refine (next_any 40 M.out.l.di (by omega) (by omega)).mono ?_
          rintro e w4 ⟨⟨a1, rfl, p0, p1⟩, hl⟩
          replace M := Lib.hid (M.out.left hl)
          clear hl
          go_wp2_with fail
          refine (next_any 40 M.out.l.di (by omega) (by omega)).mono ?_
          rintro e w5 ⟨⟨b1, rfl, r0, r1⟩, hl⟩
          replace M := Lib.hid (M.out.left hl)
          clear hl
          have hn5 : P.length < 5 := by omega
          replace G := Lib.hid (G.out.snoc (tag' := tag + 1000 * (1 + s)) (at' := at_ + 1000 * (1 + s) + y) (a := a1) (b := b1) hn5 (by omega) (by omega) (by omega) (by omega) (fun h => by cases h) p0 p1 r0 r1)
          have own := Lib.hid (M.out.o)
          have hsz : w.heap.size ≤ w5.heap.size := M.out.l.far.size
          have m1 : Hid (P.length + 1 ≤ maxLen) := Lib.hid (by unfold maxLen; omega)
          have m2 : Hid ((P.length + 1) * 24 ≤ 140737488355328) := Lib.hid (by omega)
          go_wp2_with (at_builtin; refine Tri.append3 rfl _ _ 28 rfl w.heap.size 56 _ i0 _ 24 Try.underlying28 hi hz0 hz1 hz2 rfl rfl own.out hsz _ _ _ rfl rfl rfl rfl m1.out m2.out ?_; intro v' w6 hown' hg)
          have M6 := Lib.hid (am_append _ _ _ M.out (new_block _) hg hown' (Nat.le_refl _))
          clear hown' hg M own
          go_roundw
          case rel => exact ⟨k - 1, tag + 1000 * (1 + s), at_ + 1000 * (1 + s) + y, _, by omega, by simp; omega, rfl, rfl, rfl, G, M6⟩
          case measure => simp [intOf]; omega
        · have hq' : (q == 0) = false := by rw [beq_eq_false_iff_ne]; exact hq
          clear hq
          go_wp2_with fail
          refine (next_any 40 M.out.l.di (by omega) (by omega)).mono ?_
          rintro e w4 ⟨⟨a1, rfl, p0, p1⟩, hl⟩
          replace M := Lib.hid (M.out.left hl)
          clear hl
          go_wp2_with fail
          refine (next_any 40 M.out.l.di (by omega) (by omega)).mono ?_
          rintro e w5 ⟨⟨b1, rfl, r0, r1⟩, hl⟩
          replace M := Lib.hid (M.out.left hl)
          clear hl
          have hn5 : P.length < 5 := by omega
          replace G := Lib.hid (G.out.snoc (tag' := tag + 1000 * (1 + s)) (at' := at_ + 1000 * (1 + s)) (a := a1) (b := b1) hn5 (by omega) (by omega) (by omega) (by omega) (fun _ => by omega) p0 p1 r0 r1)
          have own := Lib.hid (M.out.o)
          have hsz : w.heap.size ≤ w5.heap.size := M.out.l.far.size
          have m1 : Hid (P.length + 1 ≤ maxLen) := Lib.hid (by unfold maxLen; omega)
          have m2 : Hid ((P.length + 1) * 24 ≤ 140737488355328) := Lib.hid (by omega)
          go_wp2_with (at_builtin; refine Tri.append3 rfl _ _ 28 rfl w.heap.size 56 _ i0 _ 24 Try.underlying28 hi hz0 hz1 hz2 rfl rfl own.out hsz _ _ _ rfl rfl rfl rfl m1.out m2.out ?_; intro v' w6 hown' hg)
          have M6 := Lib.hid (am_append _ _ _ M.out (new_block _) hg hown' (Nat.le_refl _))
          clear hown' hg M own
          go_roundw
          case rel => exact ⟨k - 1, tag + 1000 * (1 + s), at_ + 1000 * (1 + s), _, by omega, by simp; omega, rfl, rfl, rfl, G, M6⟩
          case measure => simp [intOf]; omega
    · go_wp2_with fail
      go_ret2
      exact ⟨⟨_, x, P, tag, at_, rfl, x0, x1, G.out, M.out.o⟩, M.out.l⟩
theorem own_form0 {w : World} {B : Nat} {e : TypeId} {sz : Nat} {v : Value} {xs : List Value} (h : w.ownsRow B e sz v 0 xs) : ∃ a c, v = .slice a 0 c := by
  rcases h.2 with ⟨h, _⟩ | ⟨g, cap, cur, h, _⟩
  · exact ⟨_, _, h⟩
  · exact ⟨_, _, h⟩
theorem own_form {w : World} {B n : Nat} {e : TypeId} {sz : Nat} {v : Value} {xs : List Value} (h : w.ownsRow B e sz v n xs) (hn : 0 < n) : ∃ g c, v = .slice (some ⟨g, 0, none⟩) n c ∧ n ≤ c ∧ c ≤ maxLen := by
  rcases h.2 with ⟨_, h⟩ | ⟨g, cap, cur, h, _, _, h1, h2, _⟩
  · omega
  · exact ⟨_, _, h, h1, h2⟩
end Clock
end Go.Proofs.Ytdcjpjdkamlheaa
