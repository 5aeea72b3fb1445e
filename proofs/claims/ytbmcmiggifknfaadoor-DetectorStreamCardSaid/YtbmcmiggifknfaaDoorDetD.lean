/- Rows of numbers and the waves that the dice make, without the filters (FilA, FilB, FilK, FilD, FltB). -/
import Derived.Test.YtbmcmiggifknfaaDoorDice
import Derived.Lib.MinMax
import Derived.Laws.OwnMore
set_option linter.unusedVariables false
namespace Go.Proofs.YtbmcmiggifknfaaDoor
open Go.RowKit Dice
namespace Det
/-- A slice of numbers in memory, nil included. -/
def SV (w : World) (v : Value) (n : Nat) (X : Nat → Int) : Prop := ∃ a c, v = .slice a n c ∧ n ≤ c ∧ c ≤ maxLen ∧ (0 < n → ∃ b off, a = some ⟨b, off, none⟩ ∧ b < w.heap.size ∧ ∀ j, j < n → w.cell? ⟨b, off + j, none⟩ = some (.int .i64 (X j)))
theorem SV.below {w w' : World} {v : Value} {n : Nat} {X : Nat → Int} (h : SV w v n X) (hb : Below w.heap.size w w') : SV w' v n X := by
  obtain ⟨a, c, e, h1, h2, h3⟩ := h
  refine ⟨a, c, e, h1, h2, fun hn => ?_⟩
  obtain ⟨b, off, e', hlt, hc⟩ := h3 hn
  exact ⟨b, off, e', Nat.lt_of_lt_of_le hlt hb.size, fun j hj => by rw [hb.cell (p := ⟨b, off + j, none⟩) hlt]; exact hc j hj⟩
theorem infoI : (Tryd.prog.info? 3).map (fun i => (i.zero, i.size, i.bytes)) = some (some (.int .i64 0), 1, 8) := by kernel_rfl
def ints (l : List Int) : List Value := l.map fun z => Value.int .i64 z
theorem ints_snoc (l : List Int) (z : Int) : ints (l ++ [z]) = ints l ++ [.int .i64 z] := by simp [ints]
theorem own_len {B : Nat} {w : World} {v : Value} {xs : List Value} (h : Buf.Own B w v xs) : ∃ a c, v = .slice a xs.length c := by
  rcases h with ⟨rfl, rfl⟩ | ⟨g, c, h, _⟩
  · exact ⟨_, _, rfl⟩
  · exact ⟨_, _, h⟩
theorem ints_len (l : List Int) : (ints l).length = l.length := by simp [ints]
/-- A list as a function. -/
def fn (l : List Int) (k : Nat) : Int := l.getD k 0
theorem sv_own {B : Nat} {w : World} {v : Value} {l : List Int} (h : Buf.Own B w v (ints l)) : SV w v l.length (fn l) := by
  rcases h with ⟨rfl, hl⟩ | ⟨g, cap, e, hb⟩
  · have : l = [] := by simpa [ints] using hl
    subst this
    exact ⟨none, 0, rfl, Nat.le_refl _, Nat.zero_le _, fun h => by simp at h⟩
  · rw [ints_len] at e hb
    refine ⟨_, cap, e, hb.le, hb.max, fun hn => ⟨g, 0, rfl, hb.lt, fun j hj => ?_⟩⟩
    rw [Nat.zero_add, hb.cells j hj]
    simp [ints, fn, List.getD_eq_getElem?_getD, List.getElem?_eq_getElem hj]
theorem fn_old (l : List Int) (z : Int) (k : Nat) (hk : k < l.length) : fn (l ++ [z]) k = fn l k := by
  unfold fn; rw [List.getD_eq_getElem?_getD, List.getElem?_append_left hk, ← List.getD_eq_getElem?_getD]
theorem fn_last (l : List Int) (z : Int) : fn (l ++ [z]) l.length = z := by
  unfold fn; rw [List.getD_eq_getElem?_getD, List.getElem?_append_right (Nat.le_refl _)]; simp
theorem own_grown {B d : Nat} {w w' : World} {v : Value} {xs : List Value} (h : Buf.Own B w v xs) (hg : w.grownBy w' (some d)) (hd : d < B) : Buf.Own B w' v xs := by
  rcases h with h | ⟨g, cap, e, hb⟩
  · exact .inl h
  · exact .inr ⟨g, cap, e, hb.of_block (hg.block g hb.lt (by have := hb.base; simp; omega)) hg.size⟩
theorem own_of_row {B n : Nat} {w : World} {e : TypeId} {g : Nat} {xs : List Value} (h : w.ownsRow B e 1 (.slice (some ⟨g, 0, none⟩) n n) n xs) (hm : n ≤ maxLen) : Buf.Own B w (.slice (some ⟨g, 0, none⟩) n n) xs ∧ xs.length = n := by
  obtain ⟨hl, h⟩ := h
  rw [Nat.mul_one] at hl
  rcases h with ⟨e, _⟩ | ⟨g', cap, cur, e, hB, hg, _, _, hcur, htake⟩
  · cases e
  · injection e with e1 e2 e3
    injection e1 with e1
    injection e1 with e1
    subst e1 e3
    rw [Nat.mul_one] at hcur htake
    have hlt := (Array.getElem?_eq_some_iff.1 hg).1
    have hc : ∀ j, w.cell? ⟨g, j, none⟩ = cur[j]? := fun j => cell_of_row w g j _ _ _ hg
    have hx : cur.toList = xs := by rw [← htake, List.take_of_length_le (by simp; omega)]
    refine ⟨.inr ⟨g, n, by rw [hl], hB, hlt, rfl, by omega, hm, fun j hj => ?_, fun j hj => ?_, fun j hj => frozen_of_row w g j _ _ hg⟩, hl⟩
    · rw [hc, ← hx]; simp
    · rw [hc, Array.getElem?_eq_getElem (by omega)]; rfl
/-- make of a number of ints. -/
theorem wpList_make_ints {P : Program} (w : World) {ops : Array Oper} {rest : List Oper} {o : Oper} {a : Act} {Q : Exit → Act → World → Prop}
    (hg : o.guard = none) (l c : Operand) (t : TypeId) (hop : o.op = Op.makeSlice t l c) (e : TypeId) (i : TypeInfo) (h1 : P.underlying t = some (.slice e)) (h2 : P.info? e = some i) (h3 : i.zero = some (.int .i64 0)) (h4 : i.size = 1) (h5 : i.bytes = 8)
    (N C : Int) (n : Nat) (hl : a.eval l = .int .i64 N) (hc : a.eval c = .int .i64 C) (hL : N = (n : Int)) (hC : C = (n : Int)) (b : n ≤ 1000000)
    (hK : ∀ w', Buf.Own w.heap.size w' (.slice (some ⟨w.heap.size, 0, none⟩) n n) (ints (List.replicate n 0)) → Below w.heap.size w w' → wpList P ops Q rest (a.put o.dst (.slice (some ⟨w.heap.size, 0, none⟩) n n)) w') :
    wpList P ops Q (o :: rest) a w := by
  refine wpList_make_full w hg l c t hop w.heap.size e i (.int .i64 0) 1 h1 h2 h3 h4 .i64 .i64 N C n hl hc hL hC (by rw [h5]; omega) (by unfold maxLen; omega) (Nat.le_refl _) fun w' hrow hgr => ?_
  obtain ⟨ho, _⟩ := own_of_row hrow (by unfold maxLen; omega)
  have e1 : (madeCells (Value.int .i64 0).cells (n * 1)).toList = ints (List.replicate n 0) := by
    rw [Nat.mul_one, show (Value.int .i64 0).cells = #[Value.int .i64 0] from rfl, toList_madeCells_one]
    simp [ints]
  rw [e1] at ho
  exact hK w' ho ((Below.refl _ _).grown hgr (Nat.le_refl _) fun k hk => by cases hk)
theorem ints_get (L : List Int) (j : Nat) (hj : j < L.length) (h : j < (ints L).length) : (ints L)[j] = .int .i64 (L.getD j 0) := by simp [ints, List.getD, hj]
theorem ints_set (L : List Int) (j : Nat) (x : Int) : (ints L).set j (.int .i64 x) = ints (L.set j x) := by simp [ints, List.map_set]
theorem row_read {B : Nat} {w : World} {g n c : Nat} {L : List Int} (h : Buf.Own B w (.slice (some ⟨g, 0, none⟩) n c) (ints L)) (j : Nat) (hj : j < L.length) : w.cell? ⟨g, j, none⟩ = some (.int .i64 (L.getD j 0)) ∧ w.frozen? ⟨g, j, none⟩ = false ∧ B ≤ g := by
  obtain ⟨g', c', e, hB, _, hc, hf⟩ := h.parts (by rw [ints_len]; omega)
  injection e with e1 e2 e3
  injection e1 with e1
  injection e1 with e1
  subst e1
  refine ⟨?_, hf j (by rw [ints_len]; exact hj), hB⟩
  rw [hc j (by rw [ints_len]; exact hj), ints_get L j hj]
theorem row_store {B : Nat} {w : World} {g n c : Nat} {L : List Int} (h : Buf.Own B w (.slice (some ⟨g, 0, none⟩) n c) (ints L)) (j : Nat) (x : Int) : Buf.Own B (w.setCell ⟨g, j, none⟩ (.int .i64 x)) (.slice (some ⟨g, 0, none⟩) n c) (ints (L.set j x)) := by
  have := h.store j (.int .i64 x)
  rwa [ints_set] at this
theorem fn_set (L : List Int) (j k : Nat) (x : Int) (hj : j < L.length) : fn (L.set j x) k = if k = j then x else fn L k := by
  unfold fn
  simp only [List.getD_eq_getElem?_getD, List.getElem?_set]
  by_cases h : j = k
  · subst h; simp [hj]
  · rw [if_neg h, if_neg (fun e => h e.symm)]
theorem fn_zero (n k : Nat) : fn (List.replicate n 0) k = 0 := by
  unfold fn
  rw [List.getD_eq_getElem?_getD, List.getElem?_replicate]
  split <;> rfl
/-- All numbers are in range. -/
def InR (l : List Int) : Prop := ∀ j, j < l.length → -1073741823 ≤ fn l j ∧ fn l j ≤ 1073741823
theorem in_snoc {l : List Int} {z : Int} (h : InR l) (h0 : -1073741823 ≤ z) (h1 : z ≤ 1073741823) : InR (l ++ [z]) := by
  intro j hj
  simp at hj
  by_cases he : j < l.length
  · rw [fn_old l z j he]; exact h j he
  · obtain rfl : j = l.length := by omega
    rw [fn_last]; exact ⟨h0, h1⟩
/-- The memory while samples are made. -/
structure SM (W w : World) (d : Nat) (a : Option Addr) (len cap : Nat) (zs : List Int) (wr : World) (v : Value) (l : List Int) : Prop where
  L : Dice.Left W w wr d a len cap zs
  own : Buf.Own w.heap.size wr v (ints l)
  h : Di W w d a len cap zs
theorem SM.left {W w w1 w2 : World} {d : Nat} {a : Option Addr} {len cap : Nat} {zs : List Int} {v : Value} {l : List Int} (M : SM W w d a len cap zs w1 v l) (hl : Dice.Left W w1 w2 d a len cap zs) : SM W w d a len cap zs w2 v l :=
  ⟨M.L.trans hl, own_grown M.own hl.far M.h.lt, M.h⟩
theorem SM.below {W w w1 w2 : World} {d : Nat} {a : Option Addr} {len cap : Nat} {zs : List Int} {v : Value} {l : List Int} (M : SM W w d a len cap zs w1 v l) (hb : Below w1.heap.size w1 w2) : SM W w d a len cap zs w2 v l :=
  ⟨M.L.below hb, M.own.below hb, M.h⟩
theorem SM.append {W w w1 w2 : World} {d : Nat} {a : Option Addr} {len cap : Nat} {zs : List Int} {v v' : Value} {l : List Int} {x : Int} (M : SM W w d a len cap zs w1 v l) (hb : Below w.heap.size w1 w2) (ho : Buf.Own w.heap.size w2 v' (ints l ++ [.int .i64 x])) : SM W w d a len cap zs w2 v' (l ++ [x]) :=
  ⟨Dice.Left.past M.h M.L hb, by rw [ints_snoc]; exact ho, M.h⟩
/-- What Samples returns. -/
def Sampled (n : Nat) (B : Nat) (w : World) (e : Ending) : Prop := ∃ v l, e = .returned v ∧ Buf.Own B w v (ints l) ∧ InR l ∧ 1 ≤ l.length ∧ l.length ≤ n
set_option maxHeartbeats 8000000 in
set_option maxRecDepth 100000 in
theorem wave_any (n : Nat) (n1 : 1 ≤ n) (n2 : n ≤ 100) {W w : World} {d : Nat} {a : Option Addr} {len cap : Nat} {zs : List Int} (h : Di W w d a len cap zs) :
    Calls Tryd.prog 11 #[.pointer (some ⟨d, 0, none⟩), .int .i64 n] w fun e w' => Sampled n w.heap.size w' e ∧ Dice.Left W w w' d a len cap zs := by
  obtain ⟨i0, hi, hz0, hz1, hz2⟩ := info_parts infoI
  have HD := Lib.hid h
  have hlt := h.lt
  clear h
  go_enter Tryd.func11, Tryd.ntmps11
  have M0 : Hid (SM W w d a len cap zs w (.slice none 0 0) []) := Lib.hid ⟨Left.refl HD.out, Buf.Own.nil _ _, HD.out⟩
  go_wp2_with fail
  refine (next_any (n : Int) M0.out.L.di (by omega) (by omega)).mono ?_
  rintro e w2 ⟨⟨i, rfl, i1, i2⟩, hl⟩
  replace M0 := Lib.hid (M0.out.left hl)
  clear hl
  go_wp2_with fail
  go_loopw [5, 6, 7] (fun v u c wr => ∃ (k y : Int) (l : List Int), 0 ≤ k ∧ (l.length : Int) + k ≤ n ∧ (1 ≤ l.length ∨ 1 ≤ k) ∧ u = .int .i64 y ∧ c = .int .i64 k ∧ 0 ≤ y ∧ y ≤ 6 ∧ Hid (InR l) ∧ Hid (SM W w d a len cap zs wr v l)) (fun _ _ c _ => (intOf c).toNat)
  case atStart => exact ⟨1 + i, 0, [], by omega, by simp; omega, .inr (by omega), rfl, rfl, by omega, by omega, Lib.hid (fun j hj => by simp at hj), M0⟩
  case round =>
    clear M0
    obtain ⟨k, y, l, k0, k1, k2, rfl, rfl, x3, x4, hin, M⟩ := hrel
    by_cases hk : 0 < k
    · have hl64 : l.length ≤ 65536 := by omega
      by_cases hy : y = 0
      · subst hy
        go_wp2_with fail
        refine (next_any 7 M.out.L.di (by omega) (by omega)).mono ?_
        rintro e w5 ⟨⟨t, rfl, t0, t1⟩, hl⟩
        replace M := Lib.hid (M.out.left hl)
        clear hl
        by_cases ht : t = 0
        · subst ht
          go_wp2_with fail
          refine (next_any 6 M.out.L.di (by omega) (by omega)).mono ?_
          rintro e w6 ⟨⟨m, rfl, m0, m1⟩, hl⟩
          replace M := Lib.hid (M.out.left hl)
          clear hl
          go_wp2_with fail
          refine (next_any 5 M.out.L.di (by omega) (by omega)).mono ?_
          rintro e w4 ⟨⟨x, rfl, x0, x1⟩, hl⟩
          replace M := Lib.hid (M.out.left hl)
          clear hl
          go_wp2_with fail
          refine (next_any 60 M.out.L.di (by omega) (by omega)).mono ?_
          rintro e w7 ⟨⟨p, rfl, p0, p1⟩, hl⟩
          replace M := Lib.hid (M.out.left hl)
          clear hl
          go_wp2_with fail
          refine (next_any 2 M.out.L.di (by omega) (by omega)).mono ?_
          rintro e w8 ⟨⟨z, rfl, z0, z1⟩, hl⟩
          replace M := Lib.hid (M.out.left hl)
          clear hl
          obtain ⟨q, hq, q0, q1⟩ : ∃ q : Int, Hid ((p + 20) * (1 - 2 * z) = q) ∧ -80 ≤ q ∧ q ≤ 80 := by
            have : z = 0 ∨ z = 1 := by omega
            rcases this with rfl | rfl
            · exact ⟨p + 20, Lib.hid (by omega), by omega, by omega⟩
            · exact ⟨-(p + 20), Lib.hid (by omega), by omega, by omega⟩
          have qq := hq.out
          have q2 : -80 ≤ (p + 20) * (1 - 2 * z) ∧ (p + 20) * (1 - 2 * z) ≤ 80 := by rw [qq]; exact ⟨q0, q1⟩
          clear qq
          have hx : -1073741823 ≤ (p + 20) * (1 - 2 * z) ∧ (p + 20) * (1 - 2 * z) ≤ 1073741823 := by omega
          have own := Lib.hid M.out.own
          have hsz : w.heap.size ≤ w8.heap.size := M.out.L.far.size
          have hB6 : Hid (Below w.heap.size w8 w8) := Lib.hid (Below.refl _ _)
          have m1 : Hid ((ints l).length + 1 ≤ maxLen) := Lib.hid (by rw [ints_len]; unfold maxLen; omega)
          have m2 : Hid (((ints l).length + 1) * 8 ≤ 140737488355328) := Lib.hid (by rw [ints_len]; omega)
          go_wp2_with (at_builtin; refine Buf.wpList_append_one rfl _ _ 22 rfl 3 _ i0 (.int .i64 0) 8 Tryd.underlying22 hi hz0 hz1 hz2 rfl rfl own.out hB6.out hsz (.int .i64 ((p + 20) * (1 - 2 * z))) rfl rfl m1.out m2.out ?_; intro v' w9 hown' hb' _)
          have M9 := Lib.hid (M.out.append hb' hown')
          clear hown' hb' M own
          go_roundw
          case rel => exact ⟨k - 1, 1 + m - 1, l ++ [(p + 20) * (1 - 2 * z)], by omega, by simp; omega, .inl (by simp), rfl, rfl, by omega, by omega, Lib.hid (in_snoc hin.out hx.1 hx.2), M9⟩
          case measure => simp [intOf]; omega
        · have ht' : (t == 0) = false := by rw [beq_eq_false_iff_ne]; exact ht
          go_wp2_with fail
          refine (next_any 5 M.out.L.di (by omega) (by omega)).mono ?_
          rintro e w4 ⟨⟨x, rfl, x0, x1⟩, hl⟩
          replace M := Lib.hid (M.out.left hl)
          clear hl
          have hx : -1073741823 ≤ x - 2 ∧ x - 2 ≤ 1073741823 := by omega
          have own := Lib.hid M.out.own
          have hsz : w.heap.size ≤ w4.heap.size := M.out.L.far.size
          have hB6 : Hid (Below w.heap.size w4 w4) := Lib.hid (Below.refl _ _)
          have m1 : Hid ((ints l).length + 1 ≤ maxLen) := Lib.hid (by rw [ints_len]; unfold maxLen; omega)
          have m2 : Hid (((ints l).length + 1) * 8 ≤ 140737488355328) := Lib.hid (by rw [ints_len]; omega)
          go_wp2_with (at_builtin; refine Buf.wpList_append_one rfl _ _ 22 rfl 3 _ i0 (.int .i64 0) 8 Tryd.underlying22 hi hz0 hz1 hz2 rfl rfl own.out hB6.out hsz (.int .i64 (x - 2)) rfl rfl m1.out m2.out ?_; intro v' w9 hown' hb' _)
          have M9 := Lib.hid (M.out.append hb' hown')
          clear hown' hb' M own
          go_roundw
          case rel => exact ⟨k - 1, 0, l ++ [x - 2], by omega, by simp; omega, .inl (by simp), rfl, rfl, by omega, by omega, Lib.hid (in_snoc hin.out hx.1 hx.2), M9⟩
          case measure => simp [intOf]; omega
      · have hy' : (y == 0) = false := by rw [beq_eq_false_iff_ne]; exact hy
        have hy0 : 0 < y := by omega
        go_wp2_with fail
        refine (next_any 5 M.out.L.di (by omega) (by omega)).mono ?_
        rintro e w4 ⟨⟨x, rfl, x0, x1⟩, hl⟩
        replace M := Lib.hid (M.out.left hl)
        clear hl
        go_wp2_with fail
        refine (next_any 60 M.out.L.di (by omega) (by omega)).mono ?_
        rintro e w7 ⟨⟨p, rfl, p0, p1⟩, hl⟩
        replace M := Lib.hid (M.out.left hl)
        clear hl
        go_wp2_with fail
        refine (next_any 2 M.out.L.di (by omega) (by omega)).mono ?_
        rintro e w8 ⟨⟨z, rfl, z0, z1⟩, hl⟩
        replace M := Lib.hid (M.out.left hl)
        clear hl
        obtain ⟨q, hq, q0, q1⟩ : ∃ q : Int, Hid ((p + 20) * (1 - 2 * z) = q) ∧ -80 ≤ q ∧ q ≤ 80 := by
          have : z = 0 ∨ z = 1 := by omega
          rcases this with rfl | rfl
          · exact ⟨p + 20, Lib.hid (by omega), by omega, by omega⟩
          · exact ⟨-(p + 20), Lib.hid (by omega), by omega, by omega⟩
        have qq := hq.out
        have q2 : -80 ≤ (p + 20) * (1 - 2 * z) ∧ (p + 20) * (1 - 2 * z) ≤ 80 := by rw [qq]; exact ⟨q0, q1⟩
        clear qq
        have hx : -1073741823 ≤ (p + 20) * (1 - 2 * z) ∧ (p + 20) * (1 - 2 * z) ≤ 1073741823 := by omega
        have own := Lib.hid M.out.own
        have hsz : w.heap.size ≤ w8.heap.size := M.out.L.far.size
        have hB6 : Hid (Below w.heap.size w8 w8) := Lib.hid (Below.refl _ _)
        have m1 : Hid ((ints l).length + 1 ≤ maxLen) := Lib.hid (by rw [ints_len]; unfold maxLen; omega)
        have m2 : Hid (((ints l).length + 1) * 8 ≤ 140737488355328) := Lib.hid (by rw [ints_len]; omega)
        go_wp2_with (at_builtin; refine Buf.wpList_append_one rfl _ _ 22 rfl 3 _ i0 (.int .i64 0) 8 Tryd.underlying22 hi hz0 hz1 hz2 rfl rfl own.out hB6.out hsz (.int .i64 ((p + 20) * (1 - 2 * z))) rfl rfl m1.out m2.out ?_; intro v' w9 hown' hb' _)
        have M9 := Lib.hid (M.out.append hb' hown')
        clear hown' hb' M own
        go_roundw
        case rel => exact ⟨k - 1, y - 1, l ++ [(p + 20) * (1 - 2 * z)], by omega, by simp; omega, .inl (by simp), rfl, rfl, by omega, by omega, Lib.hid (in_snoc hin.out hx.1 hx.2), M9⟩
        case measure => simp [intOf]; omega
    · go_wp2_with fail
      go_ret
      exact ⟨⟨_, l, rfl, M.out.own, hin.out, by omega, by omega⟩, M.out.L⟩
end Det
end Go.Proofs.YtbmcmiggifknfaaDoor
