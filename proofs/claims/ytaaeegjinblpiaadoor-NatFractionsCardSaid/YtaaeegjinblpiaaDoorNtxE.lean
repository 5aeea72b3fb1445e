/- Parse. -/
import Derived.Test.YtaaeegjinblpiaaDoorNtxD
set_option linter.unusedVariables false
set_option linter.unusedSimpArgs false
namespace Go.Proofs.YtaaeegjinblpiaaDoor
open Go.RowKit Dice
namespace Nt
theorem mt_snoc : ∀ (c : Int) (L : List Int) (x : Int), mt c (L ++ [x]) = ((mt c L).1 ++ [((mt c L).2 + 10 * x) % 1073741824], ((mt c L).2 + 10 * x) / 1073741824)
  | c, [], x => rfl
  | c, y :: l, x => by simp only [List.cons_append, mt, mt_snoc _ l x]
/-- The row while ten times is taken: k limbs are done. -/
def pm (c : Int) (M : List Int) (k : Nat) : List Int := (mt c (M.take k)).1 ++ M.drop k
theorem pm_len (c : Int) (M : List Int) (k : Nat) : (pm c M k).length = M.length := by
  unfold pm; rw [List.length_append, mt_len, List.length_take, List.length_drop]; omega
theorem pm_zero (c : Int) (M : List Int) : pm c M 0 = M := by simp [pm, mt]
theorem pm_all (c : Int) (M : List Int) : pm c M M.length = (mt c M).1 := by unfold pm; rw [List.take_length, List.drop_length]; simp
theorem pm_at (c : Int) (M : List Int) (k : Nat) (x : Int) (h : M[k]? = some x) : (pm c M k)[k]? = some x := by
  obtain ⟨hk, e⟩ := List.getElem?_eq_some_iff.1 h
  unfold pm
  have hl : (mt c (M.take k)).1.length = k := by rw [mt_len, List.length_take]; omega
  rw [List.getElem?_append_right (by omega), hl, Nat.sub_self, List.getElem?_drop]
  simpa using h
theorem pm_step (c : Int) (M : List Int) (k : Nat) (x : Int) (h : M[k]? = some x) : (pm c M k).set k (((mt c (M.take k)).2 + 10 * x) % 1073741824) = pm c M (k + 1) ∧ (mt c (M.take (k + 1))).2 = ((mt c (M.take k)).2 + 10 * x) / 1073741824 := by
  obtain ⟨hk, e⟩ := List.getElem?_eq_some_iff.1 h
  have ht : M.take (k + 1) = M.take k ++ [x] := by rw [List.take_succ_eq_append_getElem hk, e]
  have hd : M.drop k = x :: M.drop (k + 1) := by rw [List.drop_eq_getElem_cons hk, e]
  have hl : (mt c (M.take k)).1.length = k := by rw [mt_len, List.length_take]; omega
  refine ⟨?_, by rw [ht, mt_snoc]⟩
  unfold pm
  rw [ht, mt_snoc, hd, List.set_append_right _ _ (by omega), hl, Nat.sub_self, List.append_assoc]
  rfl
theorem take_rg {M : List Int} (h : Rg M) (k : Nat) : Rg (M.take k) := fun x hx => h x (List.mem_of_mem_take hx)
theorem own_form {B : Nat} {w : World} {v : Value} {L : List Int} (h : Buf.Own B w v (iv L)) : ∃ (a : Option Addr) (c n : Nat), v = .slice a n c ∧ n = L.length ∧ n ≤ c ∧ (0 < n → ∃ g, a = some ⟨g, 0, none⟩) := by
  rcases id h with ⟨rfl, e⟩ | ⟨g, cap, rfl, b⟩
  · have : L = [] := by cases L with
      | nil => rfl
      | cons x l => simp [iv] at e
    subst this
    exact ⟨none, 0, 0, rfl, rfl, Nat.le_refl _, fun h => absurd h (Nat.lt_irrefl 0)⟩
  · exact ⟨some ⟨g, 0, none⟩, cap, _, rfl, iv_length L, b.le, fun _ => ⟨g, rfl⟩⟩
theorem dig_val {c : UInt8} (h1 : 48 ≤ c.toNat) : ((c.toNat : Int) - 48) = ((c.toNat - 48 : Nat) : Int) := by omega
set_option maxHeartbeats 4000000 in
set_option maxRecDepth 100000 in
theorem parse_any (l : List UInt8) (n : Nat) (hn : n = l.length) (h1 : 1 ≤ n) (h9 : n ≤ 1000) (h : Digs l) (hz : n = 1 ∨ ∀ c, l[0]? = some c → c.toNat ≠ 48) (hL : ∀ i, (rd (l.take i)).length ≤ 64) (w : World) :
    Calls Tryd.prog 31 #[.string ⟨⟨l⟩⟩] w fun e w' => (∃ v, e = .returned (.tuple #[v, .int .i64 0]) ∧ Buf.Own w.heap.size w' v (iv (rd l))) ∧ Below w.heap.size w w' := by
  have ID := Lib.hid (isDecimal_yes l n hn h1 h9 h hz)
  have HC := Lib.hid h
  have HL := Lib.hid hL
  have hsz : (ByteArray.mk ⟨l⟩).size = n := by rw [hn]; rfl
  replace hn := Lib.hid hn
  clear h hz hL
  obtain ⟨i0, hi, hz0, hz1, hz2⟩ := info_parts infoI
  go_enter Tryd.func31, Tryd.ntmps31
  go_wp2_with fail
  refine (ID.out _).mono ?_
  rintro e w1 ⟨rfl, hw⟩
  replace hw := hw.symm
  subst hw
  clear ID
  go_wp2_with fail
  go_loopw [4, 14] (fun v i wr => ∃ (k : Nat) (x : World) (u : Value), x = wr ∧ u = v ∧ k ≤ n ∧ i = .int .i64 k ∧ Hid (Buf.Own w.heap.size x u (iv (rd (l.take k)))) ∧ Hid (Below w.heap.size w x)) (fun _ i _ => n - (intOf i).toNat)
  case atStart => exact ⟨0, _, _, rfl, rfl, Nat.zero_le _, rfl, Lib.hid (Buf.Own.nil _ _), Lib.hid (Below.refl _ _)⟩
  case round =>
    obtain ⟨k, wr, v, rfl, rfl, hk, rfl, HO, HB⟩ := hrel
    by_cases hlt : k < n
    · obtain ⟨b, hb⟩ : ∃ b, l[k]? = some b := ⟨l[k]'(by rw [← hn.out]; exact hlt), List.getElem?_eq_getElem _⟩
      have bi : (k : Int) < n := by omega
      obtain ⟨hd1, hd2⟩ := HC.out b (List.mem_of_getElem? hb)
      have hk' : k < (ByteArray.mk ⟨l⟩).size := by rw [hsz]; exact hlt
      have hby := byte_at hb hk'
      obtain ⟨M, hM⟩ : ∃ M, M = rd (l.take k) := ⟨_, rfl⟩
      have hMl : M.length ≤ 64 := by rw [hM]; exact HL.out k
      have htk : l.take (k + 1) = l.take k ++ [b] := by
        obtain ⟨hj, e⟩ := List.getElem?_eq_some_iff.1 hb
        rw [List.take_succ_eq_append_getElem hj, e]
      have hMr : Rg M := by
        rw [hM]; exact (rd_spec _ fun c hc => HC.out c (List.mem_of_mem_take hc)).1.rg
      obtain ⟨d, hd⟩ : ∃ d : Int, d = (b.toNat : Int) - 48 := ⟨_, rfl⟩
      have hnext : Hid (rd (l.take (k + 1)) = mul10 d M) := Lib.hid (by rw [htk, rd_snoc, ← hM, hd])
      have hnl := HL.out (k + 1)
      rw [hnext.out] at hnl
      rw [← hM] at HO
      have d0 : 0 ≤ d := by omega
      have d9 : d ≤ 9 := by omega
      have hbi1 : (48 : Int) ≤ b.toNat := by omega
      have hbi2 : (b.toNat : Int) ≤ 57 := by omega
      have hdw : (b.toNat : Int) - 48 = d := hd.symm
      obtain ⟨a, c, m, rfl, hm, hmc, hat⟩ := own_form HO.out
      have hm64 : m ≤ 64 := by omega
      have HM := Lib.hid hM
      have HMr := Lib.hid hMr
      replace hat := Lib.hid hat
      replace hm := Lib.hid hm
      replace hb := Lib.hid hb
      replace hnl := Lib.hid hnl
      clear hM htk hMr hd hMl
      go_wp2_with fail
      go_loopw [6, 24] (fun cc i w2 => ∃ (q : Nat) (x2 : World), x2 = w2 ∧ q ≤ m ∧ i = .int .i64 q ∧ cc = .int .i64 (mt d (M.take q)).2 ∧ Hid (Buf.Own w.heap.size x2 (.slice a m c) (iv (pm d M q))) ∧ Hid (Below w.heap.size w x2)) (fun _ i _ => m - (intOf i).toNat)
      case atStart => exact ⟨0, _, rfl, Nat.zero_le _, rfl, rfl, by rw [pm_zero]; exact HO, HB⟩
      case round =>
        obtain ⟨q, w2, rfl, hq, rfl, rfl, HO2, HB2⟩ := hrel
        obtain ⟨cy0, cy9⟩ := mt_carry d (M.take q) d0 d9 (take_rg HMr.out q)
        by_cases hlq : q < m
        · obtain ⟨x, hx⟩ : ∃ y, M[q]? = some y := ⟨M[q]'(by rw [← hm.out]; omega), List.getElem?_eq_getElem _⟩
          obtain ⟨x0, x1⟩ := HMr.out x (List.mem_of_getElem? hx)
          obtain ⟨g, rfl⟩ := hat.out (by omega)
          obtain ⟨r1, f1, hgb⟩ := row_read HO2.out q (by rw [pm_len, ← hm.out]; exact hlq)
          have ex : (pm d M q).getD q 0 = x := by rw [List.getD_eq_getElem?_getD, pm_at d M q x hx]; rfl
          rw [ex] at r1
          obtain ⟨S1, S2⟩ := pm_step d M q x hx
          have ST := Lib.hid (row_store HO2.out q (((mt d (M.take q)).2 + 10 * x) % 1073741824))
          rw [S1] at ST
          have BS := Lib.hid (HB2.out.setCell (p := ⟨g, q, none⟩) hgb (.int .i64 (((mt d (M.take q)).2 + 10 * x) % 1073741824)))
          replace S2 := Lib.hid S2
          replace hx := Lib.hid hx
          generalize (mt d (M.take q)).2 = cy at *
          have qi : (q : Int) < m := by omega
          clear S1 ex
          go_wp2_with fail
          exact ⟨⟨q + 1, _, rfl, by omega, by go_num, by rw [S2.out], ST, BS⟩, by simp [intOf] <;> omega⟩
        · obtain rfl : m = q := by omega
          have etk : M.take m = M := by rw [hm.out, List.take_length]
          have epm : pm d M m = (mt d M).1 := by rw [hm.out, pm_all]
          rw [etk] at cy0 cy9
          rw [etk]
          rw [epm] at HO2
          have hml : (mt d M).1.length = m := by rw [mt_len, ← hm.out]
          by_cases hcy : 0 < (mt d M).2
          · have em : Hid (mul10 d M = (mt d M).1 ++ [(mt d M).2]) := Lib.hid (by unfold mul10; rw [if_pos hcy])
            have hm1 : m + 1 ≤ 64 := by have := hnl.out; rw [em.out, List.length_append, hml] at this; simpa using this
            generalize (mt d M).2 = cy at *
            clear etk epm
            have l1 : ((mt d M).1.map (Value.int .i64)).length + 1 ≤ 100 := by rw [List.length_map, hml]; omega
            go_wp2_with (at_builtin; refine Buf.wpList_append_one rfl _ _ 25 rfl 3 _ i0 (.int .i64 0) 8 Tryd.underlying25 hi hz0 hz1 hz2 rfl rfl HO2.out HB2.out HB2.out.size (.int .i64 cy) rfl rfl (by unfold maxLen; unfold iv; omega) (by unfold iv; omega) ?_; intro v' w' hown' hb' _; have hown2 : Buf.Own w.heap.size w' v' (iv (mul10 d M)) := (by rw [em.out]; unfold iv; rw [List.map_append]; exact hown'); obtain ⟨a2, c2, m2, rfl, hm2, hmc2, _⟩ := own_form hown2; have hm2' : m2 ≤ 64 := (by rw [hm2]; exact hnl.out); have HO3 := Lib.hid hown2; have HB3 := Lib.hid hb'; clear hown2 hown' hb' hm2)
            go_roundw
            case rel => exact ⟨k + 1, _, _, rfl, rfl, by omega, by go_num, by rw [hnext.out]; exact HO3, HB3⟩
            case measure => simp [intOf]; omega
          · have em : Hid (mul10 d M = (mt d M).1) := Lib.hid (by unfold mul10; rw [if_neg hcy])
            generalize (mt d M).2 = cy at *
            clear etk epm
            go_wp2_with fail
            go_roundw
            case rel => exact ⟨k + 1, _, _, rfl, rfl, by omega, by go_num, by rw [hnext.out, em.out]; exact HO2, HB2⟩
            case measure => simp [intOf]; omega
    · obtain rfl : k = n := by omega
      rw [List.take_of_length_le (by rw [hn.out]; exact Nat.le_refl _)] at HO
      go_wp2_with fail
      go_ret2
      exact ⟨⟨_, rfl, HO.out⟩, HB.out⟩
end Nt
end Go.Proofs.YtaaeegjinblpiaaDoor
