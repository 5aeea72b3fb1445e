/- Dividing by a small number. -/
import Derived.Test.YtaaeegjinblpiaaDoorNtxC
import Derived.Test.YtaaeegjinblpiaaDoorMath
set_option linter.unusedVariables false
set_option linter.unusedSimpArgs false
namespace Go.Proofs.YtaaeegjinblpiaaDoor
open Go.RowKit Dice
namespace Nt
theorem infoI : (Tryd.prog.info? 3).map (fun i => (i.zero, i.size, i.bytes)) = some (some (.int .i64 0), 1, 8) := by kernel_rfl
def iv (L : List Int) : List Value := L.map (.int .i64)
theorem iv_length (L : List Int) : (iv L).length = L.length := by simp [iv]
theorem own_of_row {B n : Nat} {w : World} {e : TypeId} {g : Nat} {xs : List Value} (h : w.ownsRow B e 1 (.slice (some ⟨g, 0, none⟩) n n) n xs) (hm : n ≤ maxLen) : Buf.Own B w (.slice (some ⟨g, 0, none⟩) n n) xs ∧ xs.length = n := by
  obtain ⟨hl, h⟩ := h
  rw [Nat.mul_one] at hl
  rcases h with ⟨e, _⟩ | ⟨g', cap, cur, e, hB, hg, _, _, hcur, htake⟩
  · cases e
  · injection e with e1 e2 e3
    injection e1 with e1
    injection e1 with e1
    subst e1 e3
    rw [Nat.mul_one] at hcur htake
    have hlt := (Array.getElem?_eq_some_iff.1 hg).1
    have hc : ∀ j, w.cell? ⟨g, j, none⟩ = cur[j]? := fun j => cell_of_row w g j _ _ _ hg
    have hx : cur.toList = xs := by rw [← htake, List.take_of_length_le (by simp; omega)]
    refine ⟨.inr ⟨g, n, by rw [hl], hB, hlt, rfl, by omega, hm, fun j hj => ?_, fun j hj => ?_, fun j hj => frozen_of_row w g j _ _ hg⟩, hl⟩
    · rw [hc, ← hx]; simp
    · rw [hc, Array.getElem?_eq_getElem (by omega)]; rfl
theorem wpList_make_ints {P : Program} (w : World) {ops : Array Oper} {rest : List Oper} {o : Oper} {a : Act} {Q : Exit → Act → World → Prop}
    (hg : o.guard = none) (l c : Operand) (t : TypeId) (hop : o.op = Op.makeSlice t l c) (e : TypeId) (i : TypeInfo) (h1 : P.underlying t = some (.slice e)) (h2 : P.info? e = some i) (h3 : i.zero = some (.int .i64 0)) (h4 : i.size = 1) (h5 : i.bytes = 8)
    (N C : Int) (n : Nat) (hl : a.eval l = .int .i64 N) (hc : a.eval c = .int .i64 C) (hL : N = (n : Int)) (hC : C = (n : Int)) (b : n ≤ 1000000)
    (hK : ∀ w', Buf.Own w.heap.size w' (.slice (some ⟨w.heap.size, 0, none⟩) n n) (iv (List.replicate n 0)) → Below w.heap.size w w' → wpList P ops Q rest (a.put o.dst (.slice (some ⟨w.heap.size, 0, none⟩) n n)) w') :
    wpList P ops Q (o :: rest) a w := by
  refine wpList_make_full w hg l c t hop w.heap.size e i (.int .i64 0) 1 h1 h2 h3 h4 .i64 .i64 N C n hl hc hL hC (by rw [h5]; omega) (by unfold maxLen; omega) (Nat.le_refl _) fun w' hrow hgr => ?_
  obtain ⟨ho, _⟩ := own_of_row hrow (by unfold maxLen; omega)
  have e1 : (madeCells (Value.int .i64 0).cells (n * 1)).toList = iv (List.replicate n 0) := by
    rw [Nat.mul_one, show (Value.int .i64 0).cells = #[Value.int .i64 0] from rfl, toList_madeCells_one]
    simp [iv]
  rw [e1] at ho
  exact hK w' ho ((Below.refl _ _).grown hgr (Nat.le_refl _) fun k hk => by cases hk)
theorem iv_get (L : List Int) (j : Nat) (hj : j < L.length) (h : j < (iv L).length) : (iv L)[j] = .int .i64 (L.getD j 0) := by simp [iv, List.getD, hj]
theorem iv_set (L : List Int) (j : Nat) (x : Int) : (iv L).set j (.int .i64 x) = iv (L.set j x) := by simp [iv, List.map_set]
theorem row_read {B : Nat} {w : World} {g n c : Nat} {L : List Int} (h : Buf.Own B w (.slice (some ⟨g, 0, none⟩) n c) (iv L)) (j : Nat) (hj : j < L.length) : w.cell? ⟨g, j, none⟩ = some (.int .i64 (L.getD j 0)) ∧ w.frozen? ⟨g, j, none⟩ = false ∧ B ≤ g := by
  obtain ⟨g', c', e, hB, _, hc, hf⟩ := h.parts (by rw [iv_length]; omega)
  injection e with e1 e2 e3
  injection e1 with e1
  injection e1 with e1
  subst e1
  refine ⟨?_, hf j (by rw [iv_length]; exact hj), hB⟩
  rw [hc j (by rw [iv_length]; exact hj), iv_get L j hj]
theorem row_store {B : Nat} {w : World} {g n c : Nat} {L : List Int} (h : Buf.Own B w (.slice (some ⟨g, 0, none⟩) n c) (iv L)) (j : Nat) (x : Int) : Buf.Own B (w.setCell ⟨g, j, none⟩ (.int .i64 x)) (.slice (some ⟨g, 0, none⟩) n c) (iv (L.set j x)) := by
  have := h.store j (.int .i64 x)
  rwa [iv_set] at this
theorem or_limb {T d : Int} (t0 : 0 ≤ T) (t9 : T * 1073741824 ≤ 4611686018427387904) (d0 : 0 ≤ d) (d9 : d ≤ 1073741823) : bits .or .i64 (T * 1073741824) d = T * 1073741824 + d := by
  obtain ⟨a, rfl⟩ := Int.eq_ofNat_of_zero_le t0
  obtain ⟨b, rfl⟩ := Int.eq_ofNat_of_zero_le d0
  have e : (a : Int) * 1073741824 = ((2 ^ 30 * a : Nat) : Int) := by rw [Int.natCast_mul, show ((2 ^ 30 : Nat) : Int) = 1073741824 by decide]; exact Int.mul_comm _ _
  have h := Ma.or_nat (2 ^ 30 * a) b (by omega) (by omega)
  rw [← Nat.two_pow_add_eq_or_of_lt (i := 30) (by omega) a] at h
  rw [e, h]; exact Int.natCast_add _ _
theorem nr_of_own {B : Nat} {w : World} {g n c : Nat} {L : List Int} (h : Buf.Own B w (.slice (some ⟨g, 0, none⟩) n c) (iv L)) (hn : n = L.length) (h65 : n ≤ 65) (hc : n ≤ c) : Nr w (some ⟨g, 0, none⟩) n c L :=
  ⟨hn, hc, h65, fun h0 => by
    obtain ⟨g', c', e, _, hl, hcc, _⟩ := h.parts (by rw [iv_length, ← hn]; exact h0)
    injection e with e1 e2 e3
    injection e1 with e1
    injection e1 with e1
    subst e1
    have hcell : ∀ (j : Nat) (x : Int), L[j]? = some x → w.cell? ⟨g, j, none⟩ = some (.int .i64 x) := fun j x hx => by
      obtain ⟨hj, e⟩ := List.getElem?_eq_some_iff.1 hx
      rw [hcc j (by rw [iv_length]; exact hj)]
      simp [iv, e]
    refine ⟨g, rfl, ?_, hcell⟩
    exact World.block_lt_of_cell? w _ (hcell 0 (L[0]'(by omega)) (List.getElem?_eq_getElem _))⟩
/-- The row while it is divided: k limbs are left. -/
def dv (d : Int) (L : List Int) (k : Nat) : List Int := List.replicate k 0 ++ (dq d (L.drop k)).1
theorem dv_len (d : Int) (L : List Int) (k : Nat) (h : k ≤ L.length) : (dv d L k).length = L.length := by
  unfold dv; rw [List.length_append, List.length_replicate, dq_len, List.length_drop]; omega
theorem dv_top (d : Int) (L : List Int) : dv d L L.length = List.replicate L.length 0 := by
  unfold dv; rw [List.drop_length]; simp [dq]
theorem dv_zero (d : Int) (L : List Int) : dv d L 0 = (dq d L).1 := by simp [dv]
theorem dv_step (d : Int) (L : List Int) (j : Nat) (x : Int) (h : L[j]? = some x) : (dv d L (j + 1)).set j (((dq d (L.drop (j + 1))).2 * 1073741824 + x) / d) = dv d L j ∧ (dq d (L.drop j)).2 = ((dq d (L.drop (j + 1))).2 * 1073741824 + x) % d := by
  obtain ⟨hj, e⟩ := List.getElem?_eq_some_iff.1 h
  have hd : L.drop j = x :: L.drop (j + 1) := by rw [List.drop_eq_getElem_cons hj, e]
  refine ⟨?_, by rw [hd]; rfl⟩
  unfold dv
  rw [hd, List.replicate_succ', List.append_assoc, List.set_append_right _ _ (by simp), List.length_replicate, Nat.sub_self]
  rfl
set_option maxHeartbeats 2000000 in
theorem divide_any {w : World} {a : Option Addr} {n c : Nat} {L : List Int} (d : Int) (h : Nr w a n c L) (hL : Limbs L) (hd1 : 1 ≤ d) (hd9 : d ≤ 1073741823) :
    Calls Tryd.prog 30 #[.slice a n c, .int .i64 d] w fun e w' => (∃ (a' : Option Addr) (n' c' : Nat), e = .returned (.tuple #[.slice a' n' c', .int .i64 (vl L % d)]) ∧ Nr w' a' n' c' (tr (dq d L).1)) ∧ Below w.heap.size w w' := by
  have hnc := h.nc
  have hl := Lib.hid h.len
  have hsm := h.small
  have H := Lib.hid h
  have HR := Lib.hid hL.rng
  have DS := Lib.hid (div_spec hL d hd1)
  clear h hL
  obtain ⟨i0, hi, hz0, hz1, hz2⟩ := info_parts infoI
  go_enter Tryd.func30, Tryd.ntmps30
  go_wp2_with (refine wpList_make_ints _ rfl _ _ 25 rfl 3 i0 Tryd.underlying25 hi hz0 hz1 hz2 _ _ n rfl rfl (by omega) (by omega) (by omega) ?_; intro w1 hown hb)
  have hown0 : Hid (Buf.Own w.heap.size w1 (.slice (some ⟨w.heap.size, 0, none⟩) n n) (iv (dv d L n))) := Lib.hid (by rw [hl.out, dv_top, ← hl.out]; exact hown)
  replace hb := Lib.hid hb
  clear hown
  go_loopw [7, 8] (fun r i wr => ∃ (k : Nat) (rr : Int), k ≤ n ∧ i = .int .i64 ((k : Int) - 1) ∧ r = .int .i64 rr ∧ Hid (rr = (dq d (L.drop k)).2) ∧ Hid (Buf.Own w.heap.size wr (.slice (some ⟨w.heap.size, 0, none⟩) n n) (iv (dv d L k))) ∧ Hid (Below w.heap.size w wr)) (fun _ i _ => (intOf i + 1).toNat)
  case atStart => exact ⟨n, 0, Nat.le_refl _, by go_num, rfl, Lib.hid (by rw [hl.out, List.drop_length]; rfl), hown0, hb⟩
  case round =>
    clear hown0 hb
    obtain ⟨k, rr, hk, rfl, rfl, hrr, hown, hbel⟩ := hrel
    obtain ⟨r0, r1⟩ := dq_rest d hd1 (L.drop k)
    rw [← hrr.out] at r0 r1
    by_cases h0 : k = 0
    · subst h0
      have e0 : (((0 : Nat) : Int) - 1) = -1 := rfl
      rw [e0]
      rw [dv_zero] at hown
      have NR := nr_of_own hown.out (by rw [dq_len]; exact hl.out) hsm (Nat.le_refl _)
      have TA := Lib.hid (trim_any NR)
      have hq2 := DS.out.2.2
      rw [List.drop_zero] at hrr
      have hrr' : rr = vl L % d := by rw [hrr.out]; exact hq2
      have NT := Lib.hid (show Nr wr (some ⟨w.heap.size, 0, none⟩) (tr (dq d L).1).length n (tr (dq d L).1) by
        have := NR.take (tr (dq d L).1).length (by have := tr_le (dq d L).1; rw [dq_len] at this; have := hl.out; omega)
        rwa [← (tr_take (dq d L).1).1] at this)
      replace hrr' := Lib.hid hrr'
      clear NR hq2 hown
      go_wp2_with fail
      refine TA.out.mono ?_
      rintro e w5 ⟨rfl, rfl⟩
      go_wp2_with fail
      go_ret2
      refine ⟨⟨_, _, _, ?_, NT⟩, hbel.out⟩
      rw [← hrr'.out]; rfl
    · obtain ⟨j, rfl⟩ : ∃ j, k = j + 1 := ⟨k - 1, by omega⟩
      have ej : (((j + 1 : Nat) : Int) - 1) = (j : Int) := by omega
      rw [ej]
      obtain ⟨x, hx⟩ : ∃ y, L[j]? = some y := ⟨L[j]'(by rw [← hl.out]; omega), List.getElem?_eq_getElem _⟩
      obtain ⟨x0, x1⟩ := HR.out x (List.mem_of_getElem? hx)
      obtain ⟨g, rfl, hg, hc⟩ := (H.out.below hbel.out).at_ (by omega)
      have c1 := hc _ _ hx
      obtain ⟨S1, S2⟩ := dv_step d L j x hx
      rw [← hrr.out] at S1 S2
      have dl := dv_len d L (j + 1) (by rw [← hl.out]; exact hk)
      obtain ⟨_, fj, _⟩ := row_read hown.out j (by rw [dl, ← hl.out]; omega)
      have ST := Lib.hid (row_store hown.out j ((rr * 1073741824 + x) / d))
      rw [S1] at ST
      have BS := Lib.hid (hbel.out.setCell (p := ⟨w.heap.size, j, none⟩) (Nat.le_refl _) (.int .i64 ((rr * 1073741824 + x) / d)))
      have ho : bits .or .i64 (rr * 1073741824) x = rr * 1073741824 + x := or_limb r0 (by omega) x0 x1
      have jn : (j : Int) < n := by omega
      have jn' : j < n := by omega
      replace S2 := Lib.hid S2
      replace hx := Lib.hid hx
      replace hrr := Lib.hid hrr.out
      obtain ⟨T, hT⟩ : ∃ T, T = rr * 1073741824 + x := ⟨_, rfl⟩
      have T0 : 0 ≤ T := by omega
      have T9 : T ≤ 1152921504606846976 := by omega
      have tq : T.tdiv d = T / d := Int.tdiv_eq_ediv_of_nonneg T0
      have tm : T.tmod d = T % d := Int.tmod_eq_emod_of_nonneg T0
      have q0 : 0 ≤ T / d := Int.ediv_nonneg T0 (by omega)
      have q9 : T / d ≤ 1152921504606846976 := Int.le_trans (Int.ediv_le_self _ T0) T9
      have m0 : 0 ≤ T % d := Int.emod_nonneg _ (by omega)
      have m9 : T % d < d := Int.emod_lt_of_pos _ (by omega)
      rw [← hT] at ho S2 ST BS
      replace hT := Lib.hid hT
      clear hc S1 dl hown
      go_wp2_with fail
      exact ⟨⟨j, _, by omega, rfl, rfl, Lib.hid S2.out.symm, ST, BS⟩, by simp [intOf]⟩
end Nt
end Go.Proofs.YtaaeegjinblpiaaDoor
