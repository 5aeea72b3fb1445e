/- mul, Mul. -/
import Derived.Test.YtaaeegjinblpiaaDoorNtxK
set_option linter.unusedVariables false
set_option linter.unusedSimpArgs false
namespace Go.Proofs.YtaaeegjinblpiaaDoor
open Go.RowKit Dice
namespace Nt
theorem row_at {W : List Int} (k : Nat) (h : k < W.length) : W[k]? = some (W.getD k 0) := by
  rw [List.getD_eq_getElem?_getD, List.getElem?_eq_getElem h]; rfl
set_option maxHeartbeats 4000000 in
set_option maxRecDepth 100000 in
theorem mul_any {w : World} {a a' : Option Addr} {n c n' c' : Nat} {L M : List Int} (h : Nr w a n c L) (h' : Nr w a' n' c' M) (RL : Rg L) (RM : Rg M) (h65 : n + n' ≤ 65) :
    Calls Tryd.prog 27 #[.slice a n c, .slice a' n' c'] w fun e w' => (∃ (b : Option Addr) (m d : Nat) (S : List Int), e = .returned (.slice b m d) ∧ Nr w' b m d S ∧ Limbs S ∧ vl S = vl L * vl M ∧ m ≤ n + n') ∧ Below w.heap.size w w' := by
  have hnc := h.nc
  have hnc' := h'.nc
  have hl := Lib.hid h.len
  have hl' := Lib.hid h'.len
  have H := Lib.hid h
  have H' := Lib.hid h'
  replace RL := Lib.hid RL
  replace RM := Lib.hid RM
  obtain ⟨i0, hi, hz0, hz1, hz2⟩ := info_parts infoI
  clear h h'
  go_enter Tryd.func27, Tryd.ntmps27
  go_wp2_with (refine wpList_make_ints _ rfl _ _ 25 rfl 3 i0 Tryd.underlying25 hi hz0 hz1 hz2 _ _ (n + n') rfl rfl (by omega) (by omega) (by omega) ?_; intro w1 hown hb)
  replace hb := Lib.hid hb
  replace hown := Lib.hid hown
  go_loopw [19] (fun i wr => ∃ (k : Nat) (W : List Int), k ≤ n ∧ i = .int .i64 (k : Int) ∧ Hid (Mo L M W k) ∧ Hid (Buf.Own w.heap.size wr (.slice (some ⟨w.heap.size, 0, none⟩) (n + n') (n + n')) (iv W)) ∧ Hid (Below w.heap.size w wr)) (fun i _ => n - (intOf i).toNat)
  case atStart => exact ⟨0, _, Nat.zero_le _, rfl, Lib.hid (Mo.start _ _), by rw [← hl.out, ← hl'.out]; exact hown, hb⟩
  case round =>
    clear hown hb
    obtain ⟨i, W, hk, rfl, HM, HO, HB⟩ := hrel
    by_cases hlk : i < n
    · have HN := Lib.hid (H.out.below HB.out)
      obtain ⟨gx, rfl⟩ := HN.out.form (by omega)
      have cx := HN.out.cell i hlk
      obtain ⟨x, hx⟩ : ∃ x, x = L.getD i 0 := ⟨_, rfl⟩
      obtain ⟨x0, x1⟩ := rg_getD RL.out i
      rw [← hx] at cx x0 x1
      replace hx := Lib.hid hx
      have ii : (i : Int) < n := by omega
      obtain ⟨wo, rfl⟩ : ∃ wo, wo = wr := ⟨_, rfl⟩
      have MI := Lib.hid (HM.out.inner x)
      clear HM
      go_wp2_with fail
      go_loopw [8, 26] (fun cy q wr => ∃ (k : Nat) (cv : Int) (W : List Int), k ≤ n' ∧ q = .int .i64 (k : Int) ∧ cy = .int .i64 cv ∧ 0 ≤ cv ∧ cv ≤ 1073741823 ∧ Hid (Mi L M W i k x cv) ∧ Hid (Buf.Own w.heap.size wr (.slice (some ⟨w.heap.size, 0, none⟩) (n + n') (n + n')) (iv W)) ∧ Hid (Below w.heap.size w wr)) (fun _ q _ => n' - (intOf q).toNat)
      case atStart => exact ⟨0, 0, W, Nat.zero_le _, rfl, rfl, by omega, by omega, MI, HO, HB⟩
      case round =>
        clear MI HO HB HN cx
        obtain ⟨k, cv, W, hk', rfl, rfl, c0, c1, MI, HO, HB⟩ := hrel
        have hWl := MI.out.len
        rw [← hl.out, ← hl'.out] at hWl
        by_cases hq : k < n'
        · have HN' := Lib.hid (H'.out.below HB.out)
          obtain ⟨gy, rfl⟩ := HN'.out.form (by omega)
          have cy := HN'.out.cell k hq
          obtain ⟨y, hy⟩ : ∃ y, y = M.getD k 0 := ⟨_, rfl⟩
          obtain ⟨y0, y1⟩ := rg_getD RM.out k
          rw [← hy] at cy y0 y1
          have ik : (i : Int) + k = ((i + k : Nat) : Int) := by omega
          obtain ⟨j, hj⟩ : ∃ j, j = i + k := ⟨_, rfl⟩
          have hjw : j < W.length := by omega
          obtain ⟨cp, fp, _⟩ := row_read HO.out j hjw
          have hp := row_at j hjw
          obtain ⟨p, hpd⟩ : ∃ p, p = W.getD j 0 := ⟨_, rfl⟩
          rw [← hpd] at cp hp
          obtain ⟨p0, p1⟩ := MI.out.rg p (List.mem_of_getElem? hp)
          have xy0 : 0 ≤ x * y := Int.mul_nonneg x0 y0
          have xy1 : x * y ≤ 1152921502459363329 := Int.le_trans (Int.mul_le_mul x1 y1 y0 (by omega)) (by decide)
          have ST := Lib.hid (MI.out.step y p hy (by rw [← hl'.out]; exact hq) (by rw [← hl.out]; exact hlk) (by rw [← hj]; exact hp) x0 x1 y0 y1)
          rw [← hj] at ST
          have OS := Lib.hid fun v => row_store HO.out j v
          have BS := Lib.hid fun v => HB.out.setCell (p := ⟨w.heap.size, j, none⟩) (Nat.le_refl _) (.int .i64 v)
          have kn : (k : Int) < n' := by omega
          have ej : (i : Int) + (k : Int) = (j : Int) := by omega
          have jn : (j : Int) < (n : Int) + n' := by omega
          have jn2 : j < n + n' := by omega
          replace hj := Lib.hid hj
          replace hp := Lib.hid hp
          replace hpd := Lib.hid hpd
          replace hy := Lib.hid hy
          clear ik hjw hWl HO
          go_wp2_with fail
          exact ⟨⟨k + 1, _, _, by omega, by go_num, rfl, ST.out.c0, ST.out.c1, ST, Lib.hid (OS.out _), Lib.hid (BS.out _)⟩, by simp [intOf]; omega⟩
        · obtain rfl : n' = k := by omega
          have hnk : ¬ ((n' : Int) < n') := by omega
          have MD := MI.out
          rw [hl'.out] at MD
          replace MD := MD.done hx.out (by rw [← hl.out]; exact hlk)
          rw [← hl'.out] at MD
          obtain ⟨j, hj⟩ : ∃ j, j = i + n' := ⟨_, rfl⟩
          rw [← hj] at MD
          have hjw : j < W.length := by omega
          obtain ⟨_, fp, _⟩ := row_read HO.out j hjw
          have OS := Lib.hid (row_store HO.out j cv)
          have BS := Lib.hid (HB.out.setCell (p := ⟨w.heap.size, j, none⟩) (Nat.le_refl _) (.int .i64 cv))
          have ej : (i : Int) + (n' : Int) = (j : Int) := by omega
          have jn : (j : Int) < (n : Int) + n' := by omega
          have jn2 : j < n + n' := by omega
          replace MD := Lib.hid MD
          replace hj := Lib.hid hj
          clear hjw hWl HO MI HB
          go_wp2_with fail
          exact ⟨⟨i + 1, _, by omega, by go_num, MD, OS, BS⟩, by simp [intOf]; omega⟩
    · obtain rfl : n = i := by omega
      have hnk : ¬ ((n : Int) < n) := by omega
      have MD := HM.out
      rw [hl.out] at MD
      have DV := MD.done
      have hWl := MD.len
      rw [← hl.out, ← hl'.out] at hWl
      have NR := nr_of_own HO.out (by rw [hWl]) (by omega) (Nat.le_refl _)
      have TL := tr_le W
      rw [hWl] at TL
      have NT := NR.take (tr W).length TL
      rw [← (tr_take W).1] at NT
      have TLm := tr_limbs W MD.rg
      have TV : vl (tr W) = vl L * vl M := by rw [tr_val, DV]
      have TA := Lib.hid (trim_any NR)
      generalize hT : tr W = S at *
      replace NT := Lib.hid NT
      replace TV := Lib.hid TV
      clear NR hT DV HO HM hWl MD
      go_wp2_with fail
      refine TA.out.mono ?_
      rintro e w2 ⟨rfl, hw⟩
      subst hw
      clear TA
      go_wp2_with fail
      go_ret
      exact ⟨⟨_, _, _, S, rfl, NT.out, TLm, TV.out, TL⟩, HB.out⟩
set_option maxHeartbeats 2000000 in
theorem Mul_any {w : World} {a a' : Option Addr} {n c n' c' : Nat} {L M : List Int} (h : Nr w a n c L) (h' : Nr w a' n' c' M) (hL : Limbs L) (hM : Limbs M) (h64 : n + n' ≤ 64) :
    Calls Tryd.prog 8 #[.slice a n c, .slice a' n' c'] w fun e w' => (∃ (b : Option Addr) (m d : Nat) (S : List Int), e = .returned (.tuple #[.slice b m d, .int .i64 0]) ∧ Nr w' b m d S ∧ Limbs S ∧ vl S = vl L * vl M ∧ m ≤ n + n') ∧ Below w.heap.size w w' := by
  have V1 := Lib.hid (valid_any h hL (by omega))
  have V2 := Lib.hid (valid_any h' hM (by omega))
  have MA := Lib.hid (mul_any h h' hL.rg hM.rg (by omega))
  clear h h' hL hM
  go_enter Tryd.func8, Tryd.ntmps8
  go_wp2_with fail
  refine V1.out.mono ?_
  rintro e w1 ⟨rfl, hw⟩
  replace hw := hw.symm
  subst hw
  go_wp2_with fail
  refine V2.out.mono ?_
  rintro e w1 ⟨rfl, hw⟩
  replace hw := hw.symm
  subst hw
  clear V1 V2
  go_wp2_with fail
  refine MA.out.mono ?_
  rintro e w1 ⟨⟨b, m, d, S, rfl, HN, HL, HV, hm⟩, hb⟩
  have LM := Lib.hid (limited_any b m d w1 (by omega))
  go_wp2_with fail
  refine LM.out.mono ?_
  rintro e w2 ⟨rfl, hw⟩
  subst hw
  go_wp2_with fail
  go_ret2
  exact ⟨⟨_, _, _, S, rfl, HN, HL, HV, hm⟩, hb⟩
end Nt
end Go.Proofs.YtaaeegjinblpiaaDoor
