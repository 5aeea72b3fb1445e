/- The samples that the dice make (as in FilD, without the filters). -/
import Derived.Test.YtfebacopbacopaaDoorRowI
import Derived.Lib.MinMax
set_option linter.unusedVariables false
set_option linter.unusedSimpArgs false
namespace Go.Proofs.YtfebacopbacopaaDoor
open Go.RowKit Dice Ri
namespace Sm
abbrev ints (l : List Int) : List Value := iv l
theorem ints_len (l : List Int) : (ints l).length = l.length := iv_length l
theorem ints_snoc (l : List Int) (z : Int) : ints (l ++ [z]) = ints l ++ [.int .i64 z] := by simp [ints, iv]
def fn (l : List Int) (k : Nat) : Int := l.getD k 0
theorem fn_old (l : List Int) (z : Int) (k : Nat) (hk : k < l.length) : fn (l ++ [z]) k = fn l k := by
  unfold fn; rw [List.getD_eq_getElem?_getD, List.getElem?_append_left hk, ← List.getD_eq_getElem?_getD]
theorem fn_last (l : List Int) (z : Int) : fn (l ++ [z]) l.length = z := by
  unfold fn; rw [List.getD_eq_getElem?_getD, List.getElem?_append_right (Nat.le_refl _)]; simp
theorem own_grown {B d : Nat} {w w' : World} {v : Value} {xs : List Value} (h : Buf.Own B w v xs) (hg : w.grownBy w' (some d)) (hd : d < B) : Buf.Own B w' v xs := by
  rcases h with h | ⟨g, cap, e, hb⟩
  · exact .inl h
  · exact .inr ⟨g, cap, e, hb.of_block (hg.block g hb.lt (by have := hb.base; simp; omega)) hg.size⟩
/-- All numbers are in range. -/
def InR (l : List Int) : Prop := ∀ j, j < l.length → -1073741823 ≤ fn l j ∧ fn l j ≤ 1073741823
theorem in_snoc {l : List Int} {z : Int} (h : InR l) (h0 : -1073741823 ≤ z) (h1 : z ≤ 1073741823) : InR (l ++ [z]) := by
  intro j hj
  simp at hj
  by_cases he : j < l.length
  · rw [fn_old l z j he]; exact h j he
  · obtain rfl : j = l.length := by omega
    rw [fn_last]; exact ⟨h0, h1⟩
/-- The memory while samples are made. -/
structure SM (W w : World) (d : Nat) (a : Option Addr) (len cap : Nat) (zs : List Int) (wr : World) (v : Value) (l : List Int) : Prop where
  L : Dice.Left W w wr d a len cap zs
  own : Buf.Own w.heap.size wr v (ints l)
  h : Di W w d a len cap zs
theorem SM.left {W w w1 w2 : World} {d : Nat} {a : Option Addr} {len cap : Nat} {zs : List Int} {v : Value} {l : List Int} (M : SM W w d a len cap zs w1 v l) (hl : Dice.Left W w1 w2 d a len cap zs) : SM W w d a len cap zs w2 v l :=
  ⟨M.L.trans hl, own_grown M.own hl.far M.h.lt, M.h⟩
theorem SM.below {W w w1 w2 : World} {d : Nat} {a : Option Addr} {len cap : Nat} {zs : List Int} {v : Value} {l : List Int} (M : SM W w d a len cap zs w1 v l) (hb : Below w1.heap.size w1 w2) : SM W w d a len cap zs w2 v l :=
  ⟨M.L.below hb, M.own.below hb, M.h⟩
theorem SM.append {W w w1 w2 : World} {d : Nat} {a : Option Addr} {len cap : Nat} {zs : List Int} {v v' : Value} {l : List Int} {x : Int} (M : SM W w d a len cap zs w1 v l) (hb : Below w.heap.size w1 w2) (ho : Buf.Own w.heap.size w2 v' (ints l ++ [.int .i64 x])) : SM W w d a len cap zs w2 v' (l ++ [x]) :=
  ⟨Dice.Left.past M.h M.L hb, by rw [ints_snoc]; exact ho, M.h⟩
/-- What Samples returns. -/
def Sampled (n : Nat) (B : Nat) (w : World) (e : Ending) : Prop := ∃ v l, e = .returned v ∧ Buf.Own B w v (ints l) ∧ InR l ∧ 1 ≤ l.length ∧ l.length ≤ n
set_option maxHeartbeats 8000000 in
set_option maxRecDepth 100000 in
theorem samples_any (n : Nat) (n1 : 1 ≤ n) (n2 : n ≤ 100) {W w : World} {d : Nat} {a : Option Addr} {len cap : Nat} {zs : List Int} (h : Di W w d a len cap zs) :
    Calls Tryd.prog 26 #[.pointer (some ⟨d, 0, none⟩), .int .i64 n] w fun e w' => Sampled n w.heap.size w' e ∧ Dice.Left W w w' d a len cap zs := by
  obtain ⟨i0, hi, hz0, hz1, hz2⟩ := info_parts infoI
  have HD := Lib.hid h
  have I1 := Lib.hid (ints_alloc w [0, 5, -100, 1000] 3)
  have hlt := h.lt
  clear h
  go_enter Tryd.func26, Tryd.ntmps26
  go_wp2_with fail
  refine (pick_any w.heap.size [0, 5, -100, 1000] 4 4 (HD.out.below (new_block _)) (by simpa using I1.out) rfl (by omega) (by omega) (by omega) (by simp)).mono ?_
  rintro e w1 ⟨⟨x, rfl, hx⟩, hl⟩
  have x0 : -100 ≤ x := by simp at hx; omega
  have x1 : x ≤ 1000 := by simp at hx; omega
  have M0 : Hid (SM W w d a len cap zs w1 (.slice none 0 0) []) := Lib.hid ⟨((Left.refl HD.out).below (new_block _)).trans hl, Buf.Own.nil _ _, HD.out⟩
  clear hl I1 hx
  go_wp2_with fail
  refine (next_any (n : Int) M0.out.L.di (by omega) (by omega)).mono ?_
  rintro e w2 ⟨⟨i, rfl, i1, i2⟩, hl⟩
  replace M0 := Lib.hid (M0.out.left hl)
  clear hl
  go_wp2_with fail
  go_loopw [5, 6, 7] (fun v u c wr => ∃ (k y : Int) (l : List Int), 0 ≤ k ∧ (l.length : Int) + k ≤ n ∧ (1 ≤ l.length ∨ 1 ≤ k) ∧ u = .int .i64 y ∧ c = .int .i64 k ∧ -1073741823 ≤ y ∧ y ≤ 1073741823 ∧ Hid (InR l) ∧ Hid (SM W w d a len cap zs wr v l)) (fun _ _ c _ => (intOf c).toNat)
  case atStart => exact ⟨1 + i, x, [], by omega, by simp; omega, .inr (by omega), rfl, rfl, by omega, by omega, Lib.hid (fun j hj => by simp at hj), M0⟩
  case round =>
    clear M0
    obtain ⟨k, x2, l, k0, k1, k2, rfl, rfl, x3, x4, hin, M⟩ := hrel
    by_cases hk : 0 < k
    · go_wp2_with fail
      refine (next_any 10 M.out.L.di (by omega) (by omega)).mono ?_
      rintro e w5 ⟨⟨t, rfl, t0, t1⟩, hl⟩
      replace M := Lib.hid (M.out.left hl)
      clear hl
      by_cases c0 : t = 0
      · subst c0
        have I3 := Lib.hid (ints_alloc w5 [127, 128, -128, -129, 300] 3)
        have dl := M.out.L.di.lt
        go_wp2_with fail
        refine (pick_any w5.heap.size [127, 128, -128, -129, 300] 5 5 (M.out.L.di.below (new_block _)) (by simpa using I3.out) rfl (by omega) (by omega) (by omega) (by simp)).mono ?_
        rintro e w6 ⟨⟨y, rfl, hy⟩, hl⟩
        have y0 : -129 ≤ y := by simp at hy; omega
        have y1 : y ≤ 300 := by simp at hy; omega
        replace M := Lib.hid ((M.out.below (new_block _)).left hl)
        clear hl I3 hy dl
        have hx : -1073741823 ≤ min (max (x2 + y) (-1073741823)) 1073741823 ∧ min (max (x2 + y) (-1073741823)) 1073741823 ≤ 1073741823 := by omega
        have own := Lib.hid M.out.own
        have hsz : w.heap.size ≤ w6.heap.size := M.out.L.far.size
        have hB6 : Hid (Below w.heap.size w6 w6) := Lib.hid (Below.refl _ _)
        have hl64 : l.length ≤ 65536 := by omega
        have m1 : Hid ((ints l).length + 1 ≤ maxLen) := Lib.hid (by rw [ints_len]; unfold maxLen; omega)
        have m2 : Hid (((ints l).length + 1) * 8 ≤ 140737488355328) := Lib.hid (by rw [ints_len]; omega)
        go_wp2_with (at_builtin; refine Buf.wpList_append_one rfl _ _ 22 rfl 3 _ i0 (.int .i64 0) 8 Tryd.underlying22 hi hz0 hz1 hz2 rfl rfl own.out hB6.out hsz (.int .i64 (min (max (x2 + y) (-1073741823)) 1073741823)) rfl rfl m1.out m2.out ?_; intro v' w9 hown' hb' _)
        have M9 := Lib.hid (M.out.append hb' hown')
        clear hown' hb' M own
        go_roundw
        case rel => exact ⟨k - 1, _, l ++ [min (max (x2 + y) (-1073741823)) 1073741823], by omega, by simp; omega, .inl (by simp), rfl, rfl, hx.1, hx.2, Lib.hid (in_snoc hin.out hx.1 hx.2), M9⟩
        case measure => simp [intOf]; omega
      by_cases c1 : t = 1
      · subst c1
        have I3 := Lib.hid (ints_alloc w5 [32767, 32768, -32768, -32769] 3)
        have dl := M.out.L.di.lt
        go_wp2_with fail
        refine (pick_any w5.heap.size [32767, 32768, -32768, -32769] 4 4 (M.out.L.di.below (new_block _)) (by simpa using I3.out) rfl (by omega) (by omega) (by omega) (by simp)).mono ?_
        rintro e w6 ⟨⟨y, rfl, hy⟩, hl⟩
        have y0 : -32769 ≤ y := by simp at hy; omega
        have y1 : y ≤ 32768 := by simp at hy; omega
        replace M := Lib.hid ((M.out.below (new_block _)).left hl)
        clear hl I3 hy dl
        have hx : -1073741823 ≤ min (max (x2 + y) (-1073741823)) 1073741823 ∧ min (max (x2 + y) (-1073741823)) 1073741823 ≤ 1073741823 := by omega
        have own := Lib.hid M.out.own
        have hsz : w.heap.size ≤ w6.heap.size := M.out.L.far.size
        have hB6 : Hid (Below w.heap.size w6 w6) := Lib.hid (Below.refl _ _)
        have hl64 : l.length ≤ 65536 := by omega
        have m1 : Hid ((ints l).length + 1 ≤ maxLen) := Lib.hid (by rw [ints_len]; unfold maxLen; omega)
        have m2 : Hid (((ints l).length + 1) * 8 ≤ 140737488355328) := Lib.hid (by rw [ints_len]; omega)
        go_wp2_with (at_builtin; refine Buf.wpList_append_one rfl _ _ 22 rfl 3 _ i0 (.int .i64 0) 8 Tryd.underlying22 hi hz0 hz1 hz2 rfl rfl own.out hB6.out hsz (.int .i64 (min (max (x2 + y) (-1073741823)) 1073741823)) rfl rfl m1.out m2.out ?_; intro v' w9 hown' hb' _)
        have M9 := Lib.hid (M.out.append hb' hown')
        clear hown' hb' M own
        go_roundw
        case rel => exact ⟨k - 1, _, l ++ [min (max (x2 + y) (-1073741823)) 1073741823], by omega, by simp; omega, .inl (by simp), rfl, rfl, hx.1, hx.2, Lib.hid (in_snoc hin.out hx.1 hx.2), M9⟩
        case measure => simp [intOf]; omega
      by_cases c2 : t = 2
      · subst c2
        have I3 := Lib.hid (ints_alloc w5 [0, 1073741823, -1073741823, 536870912] 3)
        have dl := M.out.L.di.lt
        go_wp2_with fail
        refine (pick_any w5.heap.size [0, 1073741823, -1073741823, 536870912] 4 4 (M.out.L.di.below (new_block _)) (by simpa using I3.out) rfl (by omega) (by omega) (by omega) (by simp)).mono ?_
        rintro e w6 ⟨⟨y, rfl, hy⟩, hl⟩
        have y0 : -1073741823 ≤ y := by simp at hy; omega
        have y1 : y ≤ 1073741823 := by simp at hy; omega
        replace M := Lib.hid ((M.out.below (new_block _)).left hl)
        clear hl I3 hy dl
        have hx : -1073741823 ≤ min (max y (-1073741823)) 1073741823 ∧ min (max y (-1073741823)) 1073741823 ≤ 1073741823 := by omega
        have own := Lib.hid M.out.own
        have hsz : w.heap.size ≤ w6.heap.size := M.out.L.far.size
        have hB6 : Hid (Below w.heap.size w6 w6) := Lib.hid (Below.refl _ _)
        have hl64 : l.length ≤ 65536 := by omega
        have m1 : Hid ((ints l).length + 1 ≤ maxLen) := Lib.hid (by rw [ints_len]; unfold maxLen; omega)
        have m2 : Hid (((ints l).length + 1) * 8 ≤ 140737488355328) := Lib.hid (by rw [ints_len]; omega)
        go_wp2_with (at_builtin; refine Buf.wpList_append_one rfl _ _ 22 rfl 3 _ i0 (.int .i64 0) 8 Tryd.underlying22 hi hz0 hz1 hz2 rfl rfl own.out hB6.out hsz (.int .i64 (min (max y (-1073741823)) 1073741823)) rfl rfl m1.out m2.out ?_; intro v' w9 hown' hb' _)
        have M9 := Lib.hid (M.out.append hb' hown')
        clear hown' hb' M own
        go_roundw
        case rel => exact ⟨k - 1, _, l ++ [min (max y (-1073741823)) 1073741823], by omega, by simp; omega, .inl (by simp), rfl, rfl, hx.1, hx.2, Lib.hid (in_snoc hin.out hx.1 hx.2), M9⟩
        case measure => simp [intOf]; omega
      have e0 : (t == 0) = false := by rw [beq_eq_false_iff_ne]; exact c0
      have e1 : (t == 1) = false := by rw [beq_eq_false_iff_ne]; exact c1
      have e2 : (t == 2) = false := by rw [beq_eq_false_iff_ne]; exact c2
      clear c0 c1 c2
      go_wp2_with fail
      refine (next_any 9 M.out.L.di (by omega) (by omega)).mono ?_
      rintro e w6 ⟨⟨y, rfl, y0, y1⟩, hl⟩
      replace M := Lib.hid (M.out.left hl)
      clear hl
      have hx : -1073741823 ≤ min (max (x2 + (y - 4)) (-1073741823)) 1073741823 ∧ min (max (x2 + (y - 4)) (-1073741823)) 1073741823 ≤ 1073741823 := by omega
      have own := Lib.hid M.out.own
      have hsz : w.heap.size ≤ w6.heap.size := M.out.L.far.size
      have hB6 : Hid (Below w.heap.size w6 w6) := Lib.hid (Below.refl _ _)
      have hl64 : l.length ≤ 65536 := by omega
      have m1 : Hid ((ints l).length + 1 ≤ maxLen) := Lib.hid (by rw [ints_len]; unfold maxLen; omega)
      have m2 : Hid (((ints l).length + 1) * 8 ≤ 140737488355328) := Lib.hid (by rw [ints_len]; omega)
      go_wp2_with (at_builtin; refine Buf.wpList_append_one rfl _ _ 22 rfl 3 _ i0 (.int .i64 0) 8 Tryd.underlying22 hi hz0 hz1 hz2 rfl rfl own.out hB6.out hsz (.int .i64 (min (max (x2 + (y - 4)) (-1073741823)) 1073741823)) rfl rfl m1.out m2.out ?_; intro v' w9 hown' hb' _)
      have M9 := Lib.hid (M.out.append hb' hown')
      clear hown' hb' M own
      go_roundw
      case rel => exact ⟨k - 1, _, l ++ [min (max (x2 + (y - 4)) (-1073741823)) 1073741823], by omega, by simp; omega, .inl (by simp), rfl, rfl, hx.1, hx.2, Lib.hid (in_snoc hin.out hx.1 hx.2), M9⟩
      case measure => simp [intOf]; omega
    · go_wp2_with fail
      go_ret
      exact ⟨⟨_, l, rfl, M.out.own, hin.out, by omega, by omega⟩, M.out.L⟩
end Sm
end Go.Proofs.YtfebacopbacopaaDoor
