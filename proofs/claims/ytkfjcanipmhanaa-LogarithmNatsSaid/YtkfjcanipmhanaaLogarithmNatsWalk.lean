/- The walk of LogarithmNats. -/
import Derived.Test.YtkfjcanipmhanaaLogF
import Derived.Test.YtkfjcanipmhanaaSrc
set_option linter.unusedVariables false
namespace Go.Proofs.Ytkfjcanipmhanaa
open Go.RowKit
namespace Laws
open Nat' Log
theorem own_empty (w : World) (t : TypeId) : Buf.Own w.heap.size (w.alloc (.cells #[] t)) (.slice (some ⟨w.heap.size, 0, none⟩) 0 0) (iv []) :=
  .inr ⟨w.heap.size, 0, rfl, Nat.le_refl _, by simp, rfl, Nat.le_refl _, by decide, fun j hj => absurd hj (by simp [iv]), fun j hj => absurd hj (by omega), fun j hj => absurd hj (by omega)⟩
theorem own_grown {B d : Nat} {w w' : World} {v : Value} {xs : List Value} (h : Buf.Own B w v xs) (hg : w.grownBy w' (some d)) (hd : d < B) : Buf.Own B w' v xs := by
  rcases h with h | ⟨g, cap, e, hb⟩
  · exact .inl h
  · exact .inr ⟨g, cap, e, hb.of_block (hg.block g hb.lt (by have := hb.base; simp; omega)) hg.size⟩
theorem own_len {B : Nat} {w : World} {v : Value} {xs : List Value} (h : Buf.Own B w v xs) : ∃ a c, v = .slice a xs.length c := by
  rcases h with ⟨rfl, rfl⟩ | ⟨g, cap, rfl, _⟩
  · exact ⟨none, 0, rfl⟩
  · exact ⟨_, cap, rfl⟩
theorem iv_zero (j : Nat) : iv (List.replicate j 0) ++ [.int .i64 0] = iv (List.replicate (j + 1) 0) := by
  rw [List.replicate_succ']; simp [iv]
set_option maxHeartbeats 8000000 in
set_option maxRecDepth 100000 in
theorem logarithmNats_walk (a0 : Int) (a1 : Option Addr) (len1 cap1 : Nat) (z1 : List Int) (w : World) (w0 : (Lit.int .i64 a0).wf = true) (w1 : Buf.IsRow .i64 w a1 len1 cap1 z1) :
    Calls Try.prog 4 #[.int .i64 a0, .slice a1 len1 cap1] w fun e w' => e = .returned (.bool true) ∧ Below w.heap.size w w' := by
  obtain ⟨i0, hi, hz0, hz1, hz2⟩ := info_parts infoI
  go_enter Try.func4, Try.ntmps4
  go_wp2_with fail
  refine (Src.new_any a1 len1 cap1 z1 w w1).mono ?_
  rintro e0 wA ⟨rfl, m0, hd⟩
  have L0 := Lib.hid (Src.Left.refl hd)
  clear hd w1
  go_wp2_with fail
  refine (Keep.mod_any a0 4611686018427387904 _ (by omega) (by omega)).mono ?_
  rintro e0 wB ⟨rfl, rfl⟩
  have n0 : 0 ≤ a0 % 4611686018427387904 := by omega
  have n9 : a0 % 4611686018427387904 ≤ 4611686018427387903 := by omega
  generalize a0 % 4611686018427387904 = a at *
  obtain ⟨k, Y, hx⟩ := lx_of (1 + a) (by omega) (by omega)
  have y0 := hx.y0
  have y1 := hx.y1
  have k1 := hx.k1
  have LG := Lib.hid hx.calls
  replace hx := Lib.hid hx
  clear w0
  go_wp2_with fail
  refine (from_any (1 + a) _ (by omega) (by omega)).mono ?_
  rintro e0 w2 ⟨⟨L, g, c, rfl, hs, hL⟩, hb⟩
  have LN := Lib.hid (logNat_x g c L (1 + a) k Y w2 hs hL (by omega) hx.out)
  replace L0 := Lib.hid (L0.out.below hb)
  clear hb hs hL
  go_wp2_with fail
  refine LN.out.mono ?_
  rintro e0 w3 ⟨rfl, hb⟩
  replace L0 := Lib.hid (L0.out.below hb)
  clear hb LN
  go_wp2_with fail
  refine (LG.out _).mono ?_
  rintro e0 w4 ⟨rfl, rfl⟩
  have O0 := Lib.hid (own_empty w4 3)
  have l4 := L0.out.di.lt
  replace L0 := Lib.hid (L0.out.below ((Below.refl _ _).alloc (Nat.le_refl _) (.cells #[] 3)))
  go_wp2_with fail
  refine (Src.n_any _ L0.out.di (by omega) (by omega)).mono ?_
  rintro e0 w5 ⟨⟨t, rfl, t0, t9⟩, hl⟩
  replace O0 := Lib.hid (own_grown O0.out hl.far l4)
  have hW := Lib.hid hl.di.bel
  have z5 : w4.heap.size ≤ w5.heap.size := by have := hl.far.size; simp at this; omega
  clear hl L0
  go_wp2_with fail
  go_loopw [12, 13] (fun v u wr => ∃ (j : Nat) (t : Int), u = .int .i64 t ∧ 0 ≤ t ∧ (j : Int) + t ≤ 5 ∧ Hid (Buf.Own w4.heap.size wr v (iv (List.replicate j 0))) ∧ Hid (Below w4.heap.size w5 wr)) (fun _ u _ => (intOf u).toNat)
  case atStart => exact ⟨0, t, rfl, t0, by omega, O0, Lib.hid (Below.refl _ _)⟩
  case round =>
    clear O0
    obtain ⟨j, t, rfl, t0, tj, hown, hb⟩ := hrel
    by_cases ht : 0 < t
    · have hz : w4.heap.size ≤ wr.heap.size := by have := hb.out.size; omega
      go_wp2_with (at_builtin; refine Buf.wpList_append_one rfl _ _ 26 rfl 3 _ i0 (.int .i64 0) 8 Try.underlying26 hi hz0 hz1 hz2 rfl rfl hown.out hb.out hz (.int .i64 0) rfl rfl (by rw [iv_length]; simp; unfold maxLen; omega) (by rw [iv_length]; simp; omega) ?_; intro v' w' hown' hb' _; rw [iv_zero] at hown'; replace hown' := Lib.hid hown'; replace hb' := Lib.hid hb')
      go_roundw
      case rel => exact ⟨j + 1, t - 1, rfl, by omega, by omega, hown', hb'⟩
      case measure => simp [intOf]; omega
    · obtain rfl : t = 0 := by omega
      obtain ⟨va, vc, rfl⟩ := own_len hown.out
      have ej : (iv (List.replicate j 0)).length = j := by rw [iv_length]; simp
      have hz : w4.heap.size ≤ wr.heap.size := by have := hb.out.size; omega
      rw [ej] at hown ⊢
      clear ej
      have j5 : j ≤ 5 := by omega
      go_wp2_with fail
      refine (limbs_any (1 + a) _ (by omega) (by omega)).mono ?_
      rintro e0 w6 ⟨⟨M, g2, c2, rfl, hs2, hM⟩, hc⟩
      replace hown := Lib.hid (hown.out.below hc)
      replace hb := Lib.hid (hb.out.trans (hc.mono hz))
      have hM3 := hM.2.2.2
      have hz6 : w4.heap.size ≤ w6.heap.size := by have := hc.size; omega
      have hs2c := Lib.hid hs2.cells
      replace hM := Lib.hid hM
      clear hc hs2
      go_wp2_with (at_builtin; refine Buf.wpList_append rfl _ _ 26 26 rfl 3 i0 (.int .i64 0) 8 Try.underlying26 hi hz0 hz1 hz2 rfl rfl hown.out hz6 _ M.length (iv M) rfl (Src.ofSlice _ Try.underlying26 ⟨g2, 0, none⟩ M.length c2 (iv M) (by rw [iv_length]; omega) (fun q u hu => by
        rw [Addr.add_lit, Nat.zero_add]
        have hq : q < M.length := by have := (List.getElem?_eq_some_iff.1 hu).1; rwa [iv_length] at this
        rw [hs2c.out q hq]
        rw [← hu]; simp [iv, hq]) (fun u hu => by obtain ⟨x, _, rfl⟩ := List.mem_map.1 hu; rfl)) (by rw [iv_length]; simp; unfold maxLen; omega) (by rw [iv_length]; simp; omega) ?_; intro v' w7 hown' hgr; have hb' := Buf.below_grown hb.out hown.out hz6 hgr; replace hown' := Lib.hid hown'; replace hb' := Lib.hid hb'; clear hgr)
      have hM1 := hM.out.2.2.1
      have eIv : iv (List.replicate j 0) ++ iv M = iv (List.replicate j 0 ++ M) := by simp [iv]
      have eln : (List.replicate j (0 : Int) ++ M).length = j + M.length := by simp
      rw [eIv] at hown'
      obtain ⟨g3, c3, rfl, _⟩ := hown'.out.parts (show 0 < (iv (List.replicate j 0 ++ M)).length by rw [iv_length, eln]; omega)
      have LY := Lib.hid (logNat_y g3 c3 j M (1 + a) k Y w7 (Sl.of_own hown'.out (by rw [eln]; omega) (by rw [eln]; omega)) hM.out (by omega) hx.out)
      rw [iv_length, eln]
      refine LY.out.mono ?_
      rintro e0 w8 ⟨rfl, hc⟩
      have hW8 := Lib.hid (Buf.then_ (hW.out.trans (hb'.out.mono (by omega))) hc)
      clear hc LY hown' hb' hb hW hown eIv eln hM hs2c hx LG
      have q1 : (256 * (k : Int) + Y == 256 * (k : Int) + Y) = true := by simp
      have q2 : (256 * (k : Int) + Y + 7680 * (j : Int) == 256 * (k : Int) + Y + 7680 * (j : Int)) = true := by simp
      go_wp2_with (go_at_call 5; refine (Log.awake_any _).mono ?_; rintro e w9 ⟨rfl, hc⟩; replace hW8 := Lib.hid (Buf.then_ hW8.out hc); clear hc)
      go_ret
      exact ⟨rfl, hW8.out⟩
end Laws
end Go.Proofs.Ytkfjcanipmhanaa
