/- Tables of leap seconds that the dice make. -/
import Derived.Test.YtnoggdhljijhpaaRowI
import Derived.Test.YtnoggdhljijhpaaUtcD
set_option linter.unusedVariables false
set_option linter.unusedSimpArgs false
namespace Go.Proofs.Ytnoggdhljijhpaa
open Go.RowKit Dice Ri
namespace Utc
theorem own_grown {B d : Nat} {w w' : World} {v : Value} {xs : List Value} (h : Buf.Own B w v xs) (hg : w.grownBy w' (some d)) (hd : d < B) : Buf.Own B w' v xs := by
  rcases h with h | ⟨g, cap, e, hb⟩
  · exact .inl h
  · exact .inr ⟨g, cap, e, hb.of_block (hg.block g hb.lt (by have := hb.base; simp; omega)) hg.size⟩
/-- The memory while the dice make a list. -/
structure LM (W w : World) (d : Nat) (a : Option Addr) (len cap : Nat) (zs : List Int) (wr : World) (v : Value) (l : List Int) : Prop where
  L : Dice.Left W w wr d a len cap zs
  own : Buf.Own w.heap.size wr v (iv l)
  h : Di W w d a len cap zs
theorem LM.left {W w w1 w2 : World} {d : Nat} {a : Option Addr} {len cap : Nat} {zs : List Int} {v : Value} {l : List Int} (M : LM W w d a len cap zs w1 v l) (hl : Dice.Left W w1 w2 d a len cap zs) : LM W w d a len cap zs w2 v l :=
  ⟨M.L.trans hl, own_grown M.own hl.far M.h.lt, M.h⟩
theorem LM.below {W w w1 w2 : World} {d : Nat} {a : Option Addr} {len cap : Nat} {zs : List Int} {v : Value} {l : List Int} (M : LM W w d a len cap zs w1 v l) (hb : Below w1.heap.size w1 w2) : LM W w d a len cap zs w2 v l :=
  ⟨M.L.below hb, M.own.below hb, M.h⟩
theorem iv_snoc (l : List Int) (x : Int) : iv (l ++ [x]) = iv l ++ [.int .i64 x] := by simp [iv]
theorem LM.append {W w w1 w2 : World} {d : Nat} {a : Option Addr} {len cap : Nat} {zs : List Int} {v v' : Value} {l : List Int} {x : Int} (M : LM W w d a len cap zs w1 v l) (hb : Below w.heap.size w1 w2) (ho : Buf.Own w.heap.size w2 v' (iv l ++ [.int .i64 x])) : LM W w d a len cap zs w2 v' (l ++ [x]) :=
  ⟨Dice.Left.past M.h M.L hb, by rw [iv_snoc]; exact ho, M.h⟩
theorem own_form {B : Nat} {w : World} {v : Value} {L : List Int} (h : Buf.Own B w v (iv L)) : ∃ a c, v = .slice a L.length c ∧ L.length ≤ c ∧ c ≤ 9223372036854775807 := by
  rcases h with ⟨rfl, h0⟩ | ⟨g, c, rfl, hb⟩
  · have : L = [] := by simpa [iv] using h0
    subst this
    exact ⟨none, 0, rfl, Nat.le_refl _, by decide⟩
  · rw [iv_length] at hb ⊢
    exact ⟨_, c, rfl, hb.le, by have := hb.max; unfold maxLen at this; omega⟩
theorem own_ro {B : Nat} {w : World} {a : Option Addr} {n c : Nat} {L : List Int} (h : Buf.Own B w (.slice a n c) (iv L)) : Ro w a n c L := by
  rcases h with ⟨e, h0⟩ | ⟨g, c', e, hb⟩
  · injection e with e1 e2 e3
    have : L = [] := by simpa [iv] using h0
    subst this e1 e2 e3
    exact ⟨rfl, Nat.le_refl _, by decide, fun h => by omega⟩
  · injection e with e1 e2 e3
    rw [iv_length] at e2 hb
    subst e1 e2 e3
    refine ⟨rfl, hb.le, by have := hb.max; unfold maxLen at this; omega, fun h0 => ⟨g, 0, rfl, hb.lt, fun j x hx => ?_⟩⟩
    have hj := (List.getElem?_eq_some_iff.1 hx).1
    rw [Nat.zero_add, hb.cells j hj]
    simp [iv, hx]
theorem vt_nil : VT [] := ⟨by simp, fun i hi => by simp at hi, fun i j _ hj => by simp at hj⟩
theorem getD_old (L : List Int) (x : Int) (i : Nat) (h : i < L.length) : (L ++ [x]).getD i 0 = L.getD i 0 := by
  rw [List.getD_eq_getElem?_getD, List.getElem?_append_left h, ← List.getD_eq_getElem?_getD]
theorem getD_last (L : List Int) (x : Int) : (L ++ [x]).getD L.length 0 = x := by
  rw [List.getD_eq_getElem?_getD, List.getElem?_append_right (Nat.le_refl _)]; simp
/-- A table whose civil seconds are at most so many days. -/
def Upto (L : List Int) (day : Int) : Prop := ∀ i : Nat, i < L.length → L.getD i 0 - i ≤ 86400 * day
theorem vt_snoc {L : List Int} (h : VT L) (hl : L.length < 64) (day e : Int) (hu : Upto L day) (d0 : 0 ≤ day) (hd : day < e) (e9 : e ≤ 2000) : VT (L ++ [86400 * e + L.length]) ∧ Upto (L ++ [86400 * e + L.length]) e := by
  refine ⟨⟨by simp; omega, fun i hi => ?_, fun i j hij hj => ?_⟩, fun i hi => ?_⟩
  · simp at hi
    by_cases hc : i < L.length
    · rw [getD_old L _ i hc]; exact h.val i hc
    · obtain rfl : i = L.length := by omega
      rw [getD_last]; omega
  · simp at hj
    by_cases hc : j < L.length
    · rw [getD_old L _ i (by omega), getD_old L _ j hc]; exact h.asc i j hij hc
    · obtain rfl : j = L.length := by omega
      rw [getD_old L _ i (by omega), getD_last]
      have := hu i (by omega)
      omega
  · simp at hi
    by_cases hc : i < L.length
    · rw [getD_old L _ i hc]; have := hu i hc; omega
    · obtain rfl : i = L.length := by omega
      rw [getD_last]; omega
/-- What Leaps returns. -/
def Leaped (B : Nat) (w : World) (e : Ending) : Prop := ∃ v L, e = .returned v ∧ Buf.Own B w v (iv L) ∧ VT L ∧ L.length ≤ 4 ∧ Upto L 1460
set_option maxHeartbeats 8000000 in
set_option maxRecDepth 100000 in
theorem leaps_any {W w : World} {d : Nat} {a : Option Addr} {len cap : Nat} {zs : List Int} (h : Di W w d a len cap zs) :
    Calls Try.prog 14 #[.pointer (some ⟨d, 0, none⟩)] w fun e w' => Leaped w.heap.size w' e ∧ Dice.Left W w w' d a len cap zs := by
  obtain ⟨i0, hi, hz0, hz1, hz2⟩ := info_parts infoI
  have HD := Lib.hid h
  have hlt := h.lt
  clear h
  go_enter Try.func14, Try.ntmps14
  go_wp2_with fail
  refine (next_any 5 HD.out (by omega) (by omega)).mono ?_
  rintro e w1 ⟨⟨x, rfl, x0, x9⟩, hl⟩
  have M0 : Hid (LM W w d a len cap zs w1 (.slice none 0 0) []) := Lib.hid ⟨(Left.refl HD.out).trans hl, Buf.Own.nil _ _, HD.out⟩
  clear hl
  go_wp2_with fail
  go_loopw [3, 4, 5] (fun v y c wr => ∃ (k day : Int) (l : List Int), 0 ≤ k ∧ (l.length : Int) + k ≤ 4 ∧ y = .int .i64 day ∧ c = .int .i64 k ∧ 0 ≤ day ∧ day ≤ 365 * (4 - k) ∧ Hid (VT l) ∧ Hid (Upto l day) ∧ Hid (LM W w d a len cap zs wr v l)) (fun _ _ c _ => (intOf c).toNat)
  case atStart => exact ⟨x, 0, [], x0, by simp; omega, rfl, rfl, by omega, by omega, Lib.hid vt_nil, Lib.hid (fun i hi => by simp at hi), M0⟩
  case round =>
    clear M0
    obtain ⟨k, day, l, k0, k1, rfl, rfl, d0, d9, hv, hu, M⟩ := hrel
    by_cases hk : 0 < k
    · have I3 := Lib.hid (ints_alloc wr [1, 1, 2, 10, 365] 3)
      have dl := M.out.L.di.lt
      go_wp2_with fail
      refine (pick_any wr.heap.size [1, 1, 2, 10, 365] 5 5 (M.out.L.di.below (new_block _)) (by simpa using I3.out) rfl (by omega) (by omega) (by omega) (by simp)).mono ?_
      rintro e w6 ⟨⟨y, rfl, hy⟩, hl⟩
      have y0 : 1 ≤ y := by simp at hy; omega
      have y1 : y ≤ 365 := by simp at hy; omega
      replace M := Lib.hid ((M.out.below (new_block _)).left hl)
      clear hl I3 hy dl
      obtain ⟨e, he⟩ : ∃ e, day + y = e := ⟨_, rfl⟩
      have hs := vt_snoc hv.out (by omega) day e hu.out d0 (by omega) (by omega)
      have hv' := Lib.hid hs.1
      have hu' := Lib.hid hs.2
      clear hs
      have own := Lib.hid M.out.own
      have hsz : w.heap.size ≤ w6.heap.size := M.out.L.far.size
      obtain ⟨av, cv, rfl, hn, hc⟩ := own_form M.out.own
      obtain ⟨n, hnl⟩ : ∃ n, l.length = n := ⟨_, rfl⟩
      have bo := Lib.hid (Below.refl w.heap.size w6)
      have il : (iv l).length + 1 ≤ 100 := by rw [iv_length]; omega
      have m1 : (iv l).length + 1 ≤ maxLen := by unfold maxLen; omega
      have m2 : ((iv l).length + 1) * 8 ≤ 140737488355328 := by omega
      rw [hnl] at hv' hu' hn k1 own ⊢
      have e0 : 1 ≤ e := by omega
      have e9 : e ≤ 2000 := by omega
      go_wp2_with (at_builtin; refine Buf.wpList_append_one rfl _ _ 28 rfl 3 _ i0 (.int .i64 0) 8 Try.underlying28 hi hz0 hz1 hz2 rfl rfl own.out bo.out hsz (.int .i64 (86400 * e + n)) rfl rfl m1 m2 ?_; intro v' w7 hown' hb' hs')
      go_roundw
      case rel => exact ⟨k - 1, e, l ++ [86400 * e + n], by omega, by simp; omega, rfl, rfl, by omega, by omega, hv', hu', Lib.hid (M.out.append hb' hown')⟩
      case measure => simp [intOf]; omega
    · obtain rfl : k = 0 := by omega
      go_wp2_with fail
      go_ret
      exact ⟨⟨_, l, rfl, M.out.own, hv.out, by omega, fun i hi => by have := hu.out i hi; omega⟩, M.out.L⟩
end Utc
end Go.Proofs.Ytnoggdhljijhpaa
