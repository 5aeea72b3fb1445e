/- Sub. -/
import Derived.Test.YtaaeegjinblpiaaDoorNtxK
import Derived.Test.YtaaeegjinblpiaaDoorNtxY
set_option linter.unusedVariables false
set_option linter.unusedSimpArgs false
namespace Go.Proofs.YtaaeegjinblpiaaDoor
open Go.RowKit Dice
namespace Nt
set_option maxHeartbeats 4000000 in
set_option maxRecDepth 100000 in
theorem sub_any {w : World} {a a' : Option Addr} {n c n' c' : Nat} {L M : List Int} (h : Nr w a n c L) (h' : Nr w a' n' c' M) (hL : Limbs L) (hM : Limbs M) (h64 : n ≤ 64) (h64' : n' ≤ 64) (hle : vl M ≤ vl L) :
    Calls Tryd.prog 18 #[.slice a n c, .slice a' n' c'] w fun e w' => (∃ (b : Option Addr) (m d : Nat) (S : List Int), e = .returned (.tuple #[.slice b m d, .int .i64 0]) ∧ Nr w' b m d S ∧ Limbs S ∧ vl S = vl L - vl M ∧ m ≤ n) ∧ Below w.heap.size w w' := by
  have V1 := Lib.hid (valid_any h hL (by omega))
  have V2 := Lib.hid (valid_any h' hM (by omega))
  have CA := Lib.hid (compare_any h h' hL hM)
  have hnc := h.nc
  have hnc' := h'.nc
  have hl := Lib.hid h.len
  have hl' := Lib.hid h'.len
  have hml : n' ≤ n := by
    have := len_le hM hL hle
    rw [h.len, h'.len]; exact this
  have H := Lib.hid h
  have H' := Lib.hid h'
  have RL := Lib.hid hL.rg
  have RM := Lib.hid hM.rg
  obtain ⟨i0, hi, hz0, hz1, hz2⟩ := info_parts infoI
  clear h h'
  go_enter Tryd.func18, Tryd.ntmps18
  go_wp2_with fail
  refine V1.out.mono ?_
  rintro e w1 ⟨rfl, hw⟩
  replace hw := hw.symm
  subst hw
  go_wp2_with fail
  refine V2.out.mono ?_
  rintro e w1 ⟨rfl, hw⟩
  replace hw := hw.symm
  subst hw
  clear V1 V2
  go_wp2_with fail
  refine CA.out.mono ?_
  rintro e w0 ⟨ht, m, hm⟩
  have B0 := Lib.hid (show Below w.heap.size w w0 by rw [hm]; exact Buf.below_drewN (Below.refl _ _) m)
  have he : e = .returned (.int .i64 1) ∨ e = .returned (.int .i64 0) := by
    unfold Told at ht
    rcases ht with ⟨_, h⟩ | ⟨h, _⟩ | ⟨h, _⟩
    · omega
    · exact .inl h
    · exact .inr h
  have hsz : w0.heap.size = w.heap.size := by rw [hm]; rfl
  replace hsz := Lib.hid hsz
  clear ht hm CA
  have HG : Hid (∀ (wr : World), Below w.heap.size w wr → True) := Lib.hid fun _ _ => trivial
  rcases he with rfl | rfl
  all_goals
    clear HG
    go_wp2_with (refine wpList_make_ints _ rfl _ _ 25 rfl 3 i0 Tryd.underlying25 hi hz0 hz1 hz2 _ _ n rfl rfl (by omega) (by omega) (by omega) ?_; intro w1 hown hb)
    replace hb := Lib.hid hb
    replace hown := Lib.hid hown
    go_loopw [7, 28] (fun cy i wr => ∃ (k : Nat) (cv : Int) (R : List Int), k ≤ n ∧ i = .int .i64 (k : Int) ∧ cy = .int .i64 cv ∧ 0 ≤ cv ∧ cv ≤ 1 ∧ Hid (Sb L M R cv k) ∧ Hid (Buf.Own w0.heap.size wr (.slice (some ⟨w0.heap.size, 0, none⟩) n n) (iv (R ++ List.replicate (n - k) 0))) ∧ Hid (Below w0.heap.size w0 wr)) (fun _ i _ => n - (intOf i).toNat)
    case atStart => exact ⟨0, 0, [], Nat.zero_le _, rfl, rfl, by omega, by omega, Lib.hid (Sb.start _ _), hown, hb⟩
    case round =>
      clear hown hb
      obtain ⟨k, cv, R, hk, rfl, rfl, c0, c1, HA, HO, HB⟩ := hrel
      have hRl := HA.out.len
      have HN := Lib.hid ((H.out.below B0.out).below HB.out)
      by_cases hlk : k < n
      · obtain ⟨gx, rfl⟩ := HN.out.form (by omega)
        have cx := HN.out.cell k hlk
        obtain ⟨x, hx⟩ : ∃ x, x = L.getD k 0 := ⟨_, rfl⟩
        obtain ⟨y, hy⟩ : ∃ y, y = M.getD k 0 := ⟨_, rfl⟩
        obtain ⟨x0, x1⟩ := rg_getD RL.out k
        obtain ⟨y0, y1⟩ := rg_getD RM.out k
        rw [← hx] at cx x0 x1
        rw [← hy] at y0 y1
        have er : n - k = n - (k + 1) + 1 := by omega
        have AS := Lib.hid fun v b => HA.out.step x y v b hx hy
        have kn : (k : Int) < n := by omega
        obtain ⟨_, fk, _⟩ := row_read HO.out k (by simp [hRl]; omega)
        have ST2 : ∀ v, Buf.Own w0.heap.size (wr.setCell ⟨w0.heap.size, k, none⟩ (.int .i64 v)) (.slice (some ⟨w0.heap.size, 0, none⟩) n n) (iv ((R ++ [v]) ++ List.replicate (n - (k + 1)) 0)) := fun v => by
          have h := row_store HO.out k v
          rw [er, set_end R (n - (k + 1)) v k hRl] at h
          exact h
        replace ST2 := Lib.hid ST2
        have BS := Lib.hid fun v => HB.out.setCell (p := ⟨w0.heap.size, k, none⟩) (Nat.le_refl _) (.int .i64 v)
        clear HO er
        replace hRl := Lib.hid hRl
        replace hy := Lib.hid hy
        replace hx := Lib.hid hx
        by_cases hyk : k < n'
        · have HN' := (H'.out.below B0.out).below HB.out
          obtain ⟨gy, rfl⟩ := HN'.form (by omega)
          have cy := HN'.cell k hyk
          rw [← hy.out] at cy
          replace HN' := Lib.hid HN'
          have ky : (k : Int) < n' := by omega
          by_cases hneg : x - cv - y < 0
          · go_wp2_with fail
            exact ⟨⟨k + 1, _, _, by omega, by go_num, rfl, by omega, by omega, Lib.hid (AS.out _ 1 (by omega) (by omega) (by omega) (by omega) (by omega)), Lib.hid (ST2.out _), Lib.hid (BS.out _)⟩, by simp [intOf]; omega⟩
          · go_wp2_with fail
            exact ⟨⟨k + 1, _, _, by omega, by go_num, rfl, by omega, by omega, Lib.hid (AS.out _ 0 (by omega) (by omega) (by omega) (by omega) (by omega)), Lib.hid (ST2.out _), Lib.hid (BS.out _)⟩, by simp [intOf]; omega⟩
        · have ky : ¬ ((k : Int) < n') := by omega
          obtain rfl : y = 0 := by
            rcases cut_len M k n' hl'.out with h | h
            · exact absurd h hyk
            · rw [hy.out]; exact h
          clear hy
          by_cases hneg : x - cv < 0
          · go_wp2_with fail
            exact ⟨⟨k + 1, _, _, by omega, by go_num, rfl, by omega, by omega, Lib.hid (AS.out _ 1 (by omega) (by omega) (by omega) (by omega) (by omega)), Lib.hid (ST2.out _), Lib.hid (BS.out _)⟩, by simp [intOf]; omega⟩
          · go_wp2_with fail
            exact ⟨⟨k + 1, _, _, by omega, by go_num, rfl, by omega, by omega, Lib.hid (AS.out _ 0 (by omega) (by omega) (by omega) (by omega) (by omega)), Lib.hid (ST2.out _), Lib.hid (BS.out _)⟩, by simp [intOf]; omega⟩
      · obtain rfl : n = k := by omega
        have hnk : ¬ ((n : Int) < n) := by omega
        have OW := HO.out
        rw [Nat.sub_self, List.replicate_zero, List.append_nil] at OW
        have DV := HA.out.done (by rw [← hl.out]; exact Nat.le_refl _) (by rw [← hl'.out]; exact hml) hle
        have NR := nr_of_own OW (by rw [hRl]) (by omega) (Nat.le_refl _)
        have TL := tr_le R
        rw [hRl] at TL
        have NT := NR.take (tr R).length TL
        rw [← (tr_take R).1] at NT
        have TLm := tr_limbs R HA.out.rg
        have TV : vl (tr R) = vl L - vl M := by rw [tr_val, DV]
        have TA := Lib.hid (trim_any NR)
        generalize hT : tr R = S at *
        replace NT := Lib.hid NT
        replace TV := Lib.hid TV
        have BW := Lib.hid (Buf.then_ B0.out HB.out)
        clear NR OW hT DV HO HA hRl HN
        go_wp2_with fail
        refine TA.out.mono ?_
        rintro e w2 ⟨rfl, hw⟩
        subst hw
        clear TA
        go_wp2_with fail
        go_ret2
        exact ⟨⟨_, _, _, S, rfl, NT.out, TLm, TV.out, TL⟩, BW.out⟩
end Nt
end Go.Proofs.YtaaeegjinblpiaaDoor
