/- The waves that the dice make are small. -/
import Derived.Test.YtbmcmiggifknfaaDoorDetD
set_option linter.unusedVariables false
namespace Go.Proofs.YtbmcmiggifknfaaDoor
open Go.RowKit Dice
namespace Det
/-- All numbers are small. -/
def InB (l : List Int) : Prop := ∀ j, j < l.length → -100 ≤ fn l j ∧ fn l j ≤ 100
theorem inb_snoc {l : List Int} {z : Int} (h : InB l) (h0 : -100 ≤ z) (h1 : z ≤ 100) : InB (l ++ [z]) := by
  intro j hj
  simp at hj
  by_cases he : j < l.length
  · rw [fn_old l z j he]; exact h j he
  · obtain rfl : j = l.length := by omega
    rw [fn_last]; exact ⟨h0, h1⟩
/-- What Wave returns. -/
def Waved (n : Nat) (B : Nat) (w : World) (e : Ending) : Prop := ∃ v l, e = .returned v ∧ Buf.Own B w v (ints l) ∧ InB l ∧ 1 ≤ l.length ∧ l.length ≤ n
set_option maxHeartbeats 8000000 in
set_option maxRecDepth 100000 in
theorem wave_small (n : Nat) (n1 : 1 ≤ n) (n2 : n ≤ 100) {W w : World} {d : Nat} {a : Option Addr} {len cap : Nat} {zs : List Int} (h : Di W w d a len cap zs) :
    Calls Tryd.prog 11 #[.pointer (some ⟨d, 0, none⟩), .int .i64 n] w fun e w' => Waved n w.heap.size w' e ∧ Dice.Left W w w' d a len cap zs := by
  obtain ⟨i0, hi, hz0, hz1, hz2⟩ := info_parts infoI
  have HD := Lib.hid h
  have hlt := h.lt
  clear h
  go_enter Tryd.func11, Tryd.ntmps11
  have M0 : Hid (SM W w d a len cap zs w (.slice none 0 0) []) := Lib.hid ⟨Left.refl HD.out, Buf.Own.nil _ _, HD.out⟩
  go_wp2_with fail
  refine (next_any (n : Int) M0.out.L.di (by omega) (by omega)).mono ?_
  rintro e w2 ⟨⟨i, rfl, i1, i2⟩, hl⟩
  replace M0 := Lib.hid (M0.out.left hl)
  clear hl
  go_wp2_with fail
  go_loopw [5, 6, 7] (fun v u c wr => ∃ (k y : Int) (l : List Int), 0 ≤ k ∧ (l.length : Int) + k ≤ n ∧ (1 ≤ l.length ∨ 1 ≤ k) ∧ u = .int .i64 y ∧ c = .int .i64 k ∧ 0 ≤ y ∧ y ≤ 6 ∧ Hid (InB l) ∧ Hid (SM W w d a len cap zs wr v l)) (fun _ _ c _ => (intOf c).toNat)
  case atStart => exact ⟨1 + i, 0, [], by omega, by simp; omega, .inr (by omega), rfl, rfl, by omega, by omega, Lib.hid (fun j hj => by simp at hj), M0⟩
  case round =>
    clear M0
    obtain ⟨k, y, l, k0, k1, k2, rfl, rfl, x3, x4, hin, M⟩ := hrel
    by_cases hk : 0 < k
    · have hl64 : l.length ≤ 65536 := by omega
      by_cases hy : y = 0
      · subst hy
        go_wp2_with fail
        refine (next_any 7 M.out.L.di (by omega) (by omega)).mono ?_
        rintro e w5 ⟨⟨t, rfl, t0, t1⟩, hl⟩
        replace M := Lib.hid (M.out.left hl)
        clear hl
        by_cases ht : t = 0
        · subst ht
          go_wp2_with fail
          refine (next_any 6 M.out.L.di (by omega) (by omega)).mono ?_
          rintro e w6 ⟨⟨m, rfl, m0, m1⟩, hl⟩
          replace M := Lib.hid (M.out.left hl)
          clear hl
          go_wp2_with fail
          refine (next_any 5 M.out.L.di (by omega) (by omega)).mono ?_
          rintro e w4 ⟨⟨x, rfl, x0, x1⟩, hl⟩
          replace M := Lib.hid (M.out.left hl)
          clear hl
          go_wp2_with fail
          refine (next_any 60 M.out.L.di (by omega) (by omega)).mono ?_
          rintro e w7 ⟨⟨p, rfl, p0, p1⟩, hl⟩
          replace M := Lib.hid (M.out.left hl)
          clear hl
          go_wp2_with fail
          refine (next_any 2 M.out.L.di (by omega) (by omega)).mono ?_
          rintro e w8 ⟨⟨z, rfl, z0, z1⟩, hl⟩
          replace M := Lib.hid (M.out.left hl)
          clear hl
          obtain ⟨q, hq, q0, q1⟩ : ∃ q : Int, Hid ((p + 20) * (1 - 2 * z) = q) ∧ -80 ≤ q ∧ q ≤ 80 := by
            have : z = 0 ∨ z = 1 := by omega
            rcases this with rfl | rfl
            · exact ⟨p + 20, Lib.hid (by omega), by omega, by omega⟩
            · exact ⟨-(p + 20), Lib.hid (by omega), by omega, by omega⟩
          have qq := hq.out
          have q2 : -80 ≤ (p + 20) * (1 - 2 * z) ∧ (p + 20) * (1 - 2 * z) ≤ 80 := by rw [qq]; exact ⟨q0, q1⟩
          clear qq
          have hx : -100 ≤ (p + 20) * (1 - 2 * z) ∧ (p + 20) * (1 - 2 * z) ≤ 100 := by omega
          have own := Lib.hid M.out.own
          have hsz : w.heap.size ≤ w8.heap.size := M.out.L.far.size
          have hB6 : Hid (Below w.heap.size w8 w8) := Lib.hid (Below.refl _ _)
          have m1 : Hid ((ints l).length + 1 ≤ maxLen) := Lib.hid (by rw [ints_len]; unfold maxLen; omega)
          have m2 : Hid (((ints l).length + 1) * 8 ≤ 140737488355328) := Lib.hid (by rw [ints_len]; omega)
          go_wp2_with (at_builtin; refine Buf.wpList_append_one rfl _ _ 22 rfl 3 _ i0 (.int .i64 0) 8 Tryd.underlying22 hi hz0 hz1 hz2 rfl rfl own.out hB6.out hsz (.int .i64 ((p + 20) * (1 - 2 * z))) rfl rfl m1.out m2.out ?_; intro v' w9 hown' hb' _)
          have M9 := Lib.hid (M.out.append hb' hown')
          clear hown' hb' M own
          go_roundw
          case rel => exact ⟨k - 1, 1 + m - 1, l ++ [(p + 20) * (1 - 2 * z)], by omega, by simp; omega, .inl (by simp), rfl, rfl, by omega, by omega, Lib.hid (inb_snoc hin.out hx.1 hx.2), M9⟩
          case measure => simp [intOf]; omega
        · have ht' : (t == 0) = false := by rw [beq_eq_false_iff_ne]; exact ht
          go_wp2_with fail
          refine (next_any 5 M.out.L.di (by omega) (by omega)).mono ?_
          rintro e w4 ⟨⟨x, rfl, x0, x1⟩, hl⟩
          replace M := Lib.hid (M.out.left hl)
          clear hl
          have hx : -100 ≤ x - 2 ∧ x - 2 ≤ 100 := by omega
          have own := Lib.hid M.out.own
          have hsz : w.heap.size ≤ w4.heap.size := M.out.L.far.size
          have hB6 : Hid (Below w.heap.size w4 w4) := Lib.hid (Below.refl _ _)
          have m1 : Hid ((ints l).length + 1 ≤ maxLen) := Lib.hid (by rw [ints_len]; unfold maxLen; omega)
          have m2 : Hid (((ints l).length + 1) * 8 ≤ 140737488355328) := Lib.hid (by rw [ints_len]; omega)
          go_wp2_with (at_builtin; refine Buf.wpList_append_one rfl _ _ 22 rfl 3 _ i0 (.int .i64 0) 8 Tryd.underlying22 hi hz0 hz1 hz2 rfl rfl own.out hB6.out hsz (.int .i64 (x - 2)) rfl rfl m1.out m2.out ?_; intro v' w9 hown' hb' _)
          have M9 := Lib.hid (M.out.append hb' hown')
          clear hown' hb' M own
          go_roundw
          case rel => exact ⟨k - 1, 0, l ++ [x - 2], by omega, by simp; omega, .inl (by simp), rfl, rfl, by omega, by omega, Lib.hid (inb_snoc hin.out hx.1 hx.2), M9⟩
          case measure => simp [intOf]; omega
      · have hy' : (y == 0) = false := by rw [beq_eq_false_iff_ne]; exact hy
        have hy0 : 0 < y := by omega
        go_wp2_with fail
        refine (next_any 5 M.out.L.di (by omega) (by omega)).mono ?_
        rintro e w4 ⟨⟨x, rfl, x0, x1⟩, hl⟩
        replace M := Lib.hid (M.out.left hl)
        clear hl
        go_wp2_with fail
        refine (next_any 60 M.out.L.di (by omega) (by omega)).mono ?_
        rintro e w7 ⟨⟨p, rfl, p0, p1⟩, hl⟩
        replace M := Lib.hid (M.out.left hl)
        clear hl
        go_wp2_with fail
        refine (next_any 2 M.out.L.di (by omega) (by omega)).mono ?_
        rintro e w8 ⟨⟨z, rfl, z0, z1⟩, hl⟩
        replace M := Lib.hid (M.out.left hl)
        clear hl
        obtain ⟨q, hq, q0, q1⟩ : ∃ q : Int, Hid ((p + 20) * (1 - 2 * z) = q) ∧ -80 ≤ q ∧ q ≤ 80 := by
          have : z = 0 ∨ z = 1 := by omega
          rcases this with rfl | rfl
          · exact ⟨p + 20, Lib.hid (by omega), by omega, by omega⟩
          · exact ⟨-(p + 20), Lib.hid (by omega), by omega, by omega⟩
        have qq := hq.out
        have q2 : -80 ≤ (p + 20) * (1 - 2 * z) ∧ (p + 20) * (1 - 2 * z) ≤ 80 := by rw [qq]; exact ⟨q0, q1⟩
        clear qq
        have hx : -100 ≤ (p + 20) * (1 - 2 * z) ∧ (p + 20) * (1 - 2 * z) ≤ 100 := by omega
        have own := Lib.hid M.out.own
        have hsz : w.heap.size ≤ w8.heap.size := M.out.L.far.size
        have hB6 : Hid (Below w.heap.size w8 w8) := Lib.hid (Below.refl _ _)
        have m1 : Hid ((ints l).length + 1 ≤ maxLen) := Lib.hid (by rw [ints_len]; unfold maxLen; omega)
        have m2 : Hid (((ints l).length + 1) * 8 ≤ 140737488355328) := Lib.hid (by rw [ints_len]; omega)
        go_wp2_with (at_builtin; refine Buf.wpList_append_one rfl _ _ 22 rfl 3 _ i0 (.int .i64 0) 8 Tryd.underlying22 hi hz0 hz1 hz2 rfl rfl own.out hB6.out hsz (.int .i64 ((p + 20) * (1 - 2 * z))) rfl rfl m1.out m2.out ?_; intro v' w9 hown' hb' _)
        have M9 := Lib.hid (M.out.append hb' hown')
        clear hown' hb' M own
        go_roundw
        case rel => exact ⟨k - 1, y - 1, l ++ [(p + 20) * (1 - 2 * z)], by omega, by simp; omega, .inl (by simp), rfl, rfl, by omega, by omega, Lib.hid (inb_snoc hin.out hx.1 hx.2), M9⟩
        case measure => simp [intOf]; omega
    · go_wp2_with fail
      go_ret
      exact ⟨⟨_, l, rfl, M.out.own, hin.out, by omega, by omega⟩, M.out.L⟩
end Det
end Go.Proofs.YtbmcmiggifknfaaDoor
