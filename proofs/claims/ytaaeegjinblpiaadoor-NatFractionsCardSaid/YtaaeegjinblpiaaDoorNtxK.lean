/- Add. -/
import Derived.Test.YtaaeegjinblpiaaDoorNtxJ
import Derived.Test.YtaaeegjinblpiaaDoorNtxD
set_option linter.unusedVariables false
set_option linter.unusedSimpArgs false
namespace Go.Proofs.YtaaeegjinblpiaaDoor
open Go.RowKit Dice
namespace Nt
theorem limited_any (a : Option Addr) (n c : Nat) (w : World) (h : n ≤ 64) :
    Calls Tryd.prog 25 #[.slice a n c] w fun e w' => e = .returned (.tuple #[.slice a n c, .int .i64 0]) ∧ w' = w := by
  go_enter Tryd.func25, Tryd.ntmps25
  go_wp2
  go_ret2
  exact ⟨rfl, rfl⟩
/-- The limb at a place, loaded where there is one. -/
theorem Nr.cell {w : World} {g : Nat} {n c : Nat} {L : List Int} (h : Nr w (some ⟨g, 0, none⟩) n c L) (k : Nat) (hk : k < n) : w.cell? ⟨g, k, none⟩ = some (.int .i64 (L.getD k 0)) := by
  obtain ⟨g', e, hg, hc⟩ := h.at_ (by omega)
  injection e with e
  injection e with e
  subst e
  have hl := h.len
  refine hc k _ ?_
  rw [List.getD_eq_getElem?_getD, List.getElem?_eq_getElem (by omega)]; rfl
theorem Nr.form {w : World} {a : Option Addr} {n c : Nat} {L : List Int} (h : Nr w a n c L) (h0 : 0 < n) : ∃ g, a = some ⟨g, 0, none⟩ := by
  obtain ⟨g, e, _⟩ := h.at_ h0
  exact ⟨g, e⟩
theorem cut_len (L : List Int) (k n : Nat) (hn : n = L.length) : (k < n) ∨ L.getD k 0 = 0 := by
  by_cases h : k < n
  · exact .inl h
  · right; simp [List.getD, show L.length ≤ k by omega]
set_option maxHeartbeats 4000000 in
set_option maxRecDepth 100000 in
/-- The loop of Add, from where the longer number stands first. -/
theorem add_any {w : World} {a a' : Option Addr} {n c n' c' : Nat} {L M : List Int} (h : Nr w a n c L) (h' : Nr w a' n' c' M) (hL : Limbs L) (hM : Limbs M) (h63 : n ≤ 63) (h63' : n' ≤ 63) :
    Calls Tryd.prog 7 #[.slice a n c, .slice a' n' c'] w fun e w' => (∃ (b : Option Addr) (m d : Nat) (S : List Int), e = .returned (.tuple #[.slice b m d, .int .i64 0]) ∧ Nr w' b m d S ∧ Limbs S ∧ vl S = vl L + vl M ∧ m ≤ max n n' + 1) ∧ Below w.heap.size w w' := by
  have V1 := Lib.hid (valid_any h hL (by omega))
  have V2 := Lib.hid (valid_any h' hM (by omega))
  have hnc := h.nc
  have hnc' := h'.nc
  have hl := Lib.hid h.len
  have hl' := Lib.hid h'.len
  have H := Lib.hid h
  have H' := Lib.hid h'
  obtain ⟨i0, hi, hz0, hz1, hz2⟩ := info_parts infoI
  clear h h'
  by_cases hlt : n < n'
  · have hsw : (n : Int) < n' := by omega
    go_enter Tryd.func7, Tryd.ntmps7
    go_wp2_with fail
    refine V1.out.mono ?_
    rintro e w1 ⟨rfl, hw⟩
    replace hw := hw.symm
    subst hw
    go_wp2_with fail
    refine V2.out.mono ?_
    rintro e w1 ⟨rfl, hw⟩
    replace hw := hw.symm
    subst hw
    clear V1 V2
    go_wp2_with (refine wpList_make_ints _ rfl _ _ 25 rfl 3 i0 Tryd.underlying25 hi hz0 hz1 hz2 _ _ (n' + 1) rfl rfl (by omega) (by omega) (by omega) ?_; intro w1 hown hb)
    replace hb := Lib.hid hb
    have HM := H'
    have HL := H
    have RM := Lib.hid hM.rg
    have RL := Lib.hid hL.rg
    replace hown := Lib.hid hown
    go_loopw [7, 31] (fun cy i wr => ∃ (k : Nat) (cv : Int) (R : List Int), k ≤ n' ∧ i = .int .i64 (k : Int) ∧ cy = .int .i64 cv ∧ 0 ≤ cv ∧ cv ≤ 1 ∧ Hid (Ad M L R cv k) ∧ Hid (Buf.Own w.heap.size wr (.slice (some ⟨w.heap.size, 0, none⟩) (n' + 1) (n' + 1)) (iv (R ++ List.replicate (n' + 1 - k) 0))) ∧ Hid (Below w.heap.size w wr)) (fun _ i _ => n' - (intOf i).toNat)
    case atStart => exact ⟨0, 0, [], Nat.zero_le _, rfl, rfl, by omega, by omega, Lib.hid (Ad.start _ _), hown, hb⟩
    case round =>
      clear hown hb
      obtain ⟨k, cv, R, hk, rfl, rfl, c0, c1, HA, HO, HB⟩ := hrel
      have hRl := HA.out.len
      by_cases hlk : k < n'
      · obtain ⟨gx, rfl⟩ := HM.out.form (by omega)
        have cx := (HM.out.below HB.out).cell k hlk
        obtain ⟨x, hx⟩ : ∃ x, x = M.getD k 0 := ⟨_, rfl⟩
        obtain ⟨y, hy⟩ : ∃ y, y = L.getD k 0 := ⟨_, rfl⟩
        obtain ⟨x0, x1⟩ := rg_getD RM.out k
        obtain ⟨y0, y1⟩ := rg_getD RL.out k
        rw [← hx] at cx x0 x1
        rw [← hy] at y0 y1
        have er : n' + 1 - k = n' - k + 1 := by omega
        have AS := Lib.hid (HA.out.step x y hx hy x0 x1 y0 y1)
        have kn : (k : Int) < n' := by omega
        have kn' : k < n' := by omega
        have kn1 : (k : Int) < (n' : Int) + 1 := by omega
        have kn2 : k < n' + 1 := by omega
        obtain ⟨_, fk, _⟩ := row_read HO.out k (by simp [hRl]; omega)
        have ST := fun v => row_store HO.out k v
        rw [er] at ST
        have ST2 : ∀ v, Buf.Own w.heap.size (wr.setCell ⟨w.heap.size, k, none⟩ (.int .i64 v)) (.slice (some ⟨w.heap.size, 0, none⟩) (n' + 1) (n' + 1)) (iv ((R ++ [v]) ++ List.replicate (n' + 1 - (k + 1)) 0)) := fun v => by
          have h := ST v
          rw [set_end R (n' - k) v k hRl] at h
          rw [show n' + 1 - (k + 1) = n' - k by omega]; exact h
        replace ST2 := Lib.hid ST2
        have BS := Lib.hid fun v => HB.out.setCell (p := ⟨w.heap.size, k, none⟩) (Nat.le_refl _) (.int .i64 v)
        clear ST HO er
        replace hRl := Lib.hid hRl
        replace hy := Lib.hid hy
        by_cases hyk : k < n
        · obtain ⟨gy, rfl⟩ := HL.out.form (by omega)
          have cy := (HL.out.below HB.out).cell k hyk
          rw [← hy.out] at cy
          have ky : (k : Int) < n := by omega
          clear hx
          go_wp2_with fail
          exact ⟨⟨k + 1, _, _, by omega, by go_num, rfl, AS.out.c0, AS.out.c1, AS, Lib.hid (ST2.out _), Lib.hid (BS.out _)⟩, by simp [intOf]; omega⟩
        · have ky : ¬ ((k : Int) < n) := by omega
          obtain rfl : y = 0 := by
            rcases cut_len L k n hl.out with h | h
            · exact absurd h hyk
            · rw [hy.out]; exact h
          rw [Int.add_zero] at AS
          clear hx hy
          go_wp2_with fail
          exact ⟨⟨k + 1, _, _, by omega, by go_num, rfl, AS.out.c0, AS.out.c1, AS, Lib.hid (ST2.out _), Lib.hid (BS.out _)⟩, by simp [intOf]; omega⟩
      · obtain rfl : n' = k := by omega
        have hnk : ¬ ((n' : Int) < n') := by omega
        have er : n' + 1 - n' = 0 + 1 := by omega
        obtain ⟨_, fk, _⟩ := row_read HO.out n' (by simp [hRl])
        have kn1 : (n' : Int) < (n' : Int) + 1 := by omega
        have kn2 : n' < n' + 1 := by omega
        have ST := row_store HO.out n' cv
        rw [er, set_end R 0 cv n' hRl, List.replicate_zero, List.append_nil] at ST
        have BS := Lib.hid (HB.out.setCell (p := ⟨w.heap.size, n', none⟩) (Nat.le_refl _) (.int .i64 cv))
        obtain ⟨DR, DV⟩ := HA.out.done (by rw [← hl'.out]; exact Nat.le_refl _) (by rw [← hl.out]; omega)
        have NR := nr_of_own ST (by simp [hRl]) (by omega) (Nat.le_refl _)
        have NT := NR.take (tr (R ++ [cv])).length (by have := tr_le (R ++ [cv]); rw [List.length_append, List.length_singleton, hRl] at this; omega)
        rw [← (tr_take (R ++ [cv])).1] at NT
        have TL := tr_le (R ++ [cv])
        have TLm := tr_limbs (R ++ [cv]) DR
        have TV : vl (tr (R ++ [cv])) = vl L + vl M := by rw [tr_val, DV] <;> omega
        have tl2 : (tr (R ++ [cv])).length ≤ n' + 1 := by rw [List.length_append, List.length_singleton, hRl] at TL; omega
        have TA := Lib.hid (trim_any NR)
        generalize hT : tr (R ++ [cv]) = S at *
        have LM := Lib.hid (limited_any (some ⟨w.heap.size, 0, none⟩) S.length (n' + 1) (wr.setCell ⟨w.heap.size, n', none⟩ (.int .i64 cv)) (by omega))
        replace NT := Lib.hid NT
        replace TV := Lib.hid TV
        clear NR ST er TL hT DR DV HO HA hRl
        go_wp2_with fail
        refine TA.out.mono ?_
        rintro e w2 ⟨rfl, hw⟩
        subst hw
        clear TA
        go_wp2_with fail
        refine LM.out.mono ?_
        rintro e w2 ⟨rfl, hw⟩
        subst hw
        go_wp2_with fail
        go_ret2
        exact ⟨⟨_, _, _, S, rfl, NT.out, TLm, TV.out, (by omega)⟩, BS.out⟩
  · have hsw : ¬ ((n : Int) < n') := by omega
    go_enter Tryd.func7, Tryd.ntmps7
    go_wp2_with fail
    refine V1.out.mono ?_
    rintro e w1 ⟨rfl, hw⟩
    replace hw := hw.symm
    subst hw
    go_wp2_with fail
    refine V2.out.mono ?_
    rintro e w1 ⟨rfl, hw⟩
    replace hw := hw.symm
    subst hw
    clear V1 V2
    go_wp2_with (refine wpList_make_ints _ rfl _ _ 25 rfl 3 i0 Tryd.underlying25 hi hz0 hz1 hz2 _ _ (n + 1) rfl rfl (by omega) (by omega) (by omega) ?_; intro w1 hown hb)
    replace hb := Lib.hid hb
    have HL := H
    have HM := H'
    have RL := Lib.hid hL.rg
    have RM := Lib.hid hM.rg
    replace hown := Lib.hid hown
    go_loopw [7, 31] (fun cy i wr => ∃ (k : Nat) (cv : Int) (R : List Int), k ≤ n ∧ i = .int .i64 (k : Int) ∧ cy = .int .i64 cv ∧ 0 ≤ cv ∧ cv ≤ 1 ∧ Hid (Ad L M R cv k) ∧ Hid (Buf.Own w.heap.size wr (.slice (some ⟨w.heap.size, 0, none⟩) (n + 1) (n + 1)) (iv (R ++ List.replicate (n + 1 - k) 0))) ∧ Hid (Below w.heap.size w wr)) (fun _ i _ => n - (intOf i).toNat)
    case atStart => exact ⟨0, 0, [], Nat.zero_le _, rfl, rfl, by omega, by omega, Lib.hid (Ad.start _ _), hown, hb⟩
    case round =>
      clear hown hb
      obtain ⟨k, cv, R, hk, rfl, rfl, c0, c1, HA, HO, HB⟩ := hrel
      have hRl := HA.out.len
      by_cases hlk : k < n
      · obtain ⟨gx, rfl⟩ := HL.out.form (by omega)
        have cx := (HL.out.below HB.out).cell k hlk
        obtain ⟨x, hx⟩ : ∃ x, x = L.getD k 0 := ⟨_, rfl⟩
        obtain ⟨y, hy⟩ : ∃ y, y = M.getD k 0 := ⟨_, rfl⟩
        obtain ⟨x0, x1⟩ := rg_getD RL.out k
        obtain ⟨y0, y1⟩ := rg_getD RM.out k
        rw [← hx] at cx x0 x1
        rw [← hy] at y0 y1
        have er : n + 1 - k = n - k + 1 := by omega
        have AS := Lib.hid (HA.out.step x y hx hy x0 x1 y0 y1)
        have kn : (k : Int) < n := by omega
        have kn' : k < n := by omega
        have kn1 : (k : Int) < (n : Int) + 1 := by omega
        have kn2 : k < n + 1 := by omega
        obtain ⟨_, fk, _⟩ := row_read HO.out k (by simp [hRl]; omega)
        have ST := fun v => row_store HO.out k v
        rw [er] at ST
        have ST2 : ∀ v, Buf.Own w.heap.size (wr.setCell ⟨w.heap.size, k, none⟩ (.int .i64 v)) (.slice (some ⟨w.heap.size, 0, none⟩) (n + 1) (n + 1)) (iv ((R ++ [v]) ++ List.replicate (n + 1 - (k + 1)) 0)) := fun v => by
          have h := ST v
          rw [set_end R (n - k) v k hRl] at h
          rw [show n + 1 - (k + 1) = n - k by omega]; exact h
        replace ST2 := Lib.hid ST2
        have BS := Lib.hid fun v => HB.out.setCell (p := ⟨w.heap.size, k, none⟩) (Nat.le_refl _) (.int .i64 v)
        clear ST HO er
        replace hRl := Lib.hid hRl
        replace hy := Lib.hid hy
        by_cases hyk : k < n'
        · obtain ⟨gy, rfl⟩ := HM.out.form (by omega)
          have cy := (HM.out.below HB.out).cell k hyk
          rw [← hy.out] at cy
          have ky : (k : Int) < n' := by omega
          clear hx
          go_wp2_with fail
          exact ⟨⟨k + 1, _, _, by omega, by go_num, rfl, AS.out.c0, AS.out.c1, AS, Lib.hid (ST2.out _), Lib.hid (BS.out _)⟩, by simp [intOf]; omega⟩
        · have ky : ¬ ((k : Int) < n') := by omega
          obtain rfl : y = 0 := by
            rcases cut_len M k n' hl'.out with h | h
            · exact absurd h hyk
            · rw [hy.out]; exact h
          rw [Int.add_zero] at AS
          clear hx hy
          go_wp2_with fail
          exact ⟨⟨k + 1, _, _, by omega, by go_num, rfl, AS.out.c0, AS.out.c1, AS, Lib.hid (ST2.out _), Lib.hid (BS.out _)⟩, by simp [intOf]; omega⟩
      · obtain rfl : n = k := by omega
        have hnk : ¬ ((n : Int) < n) := by omega
        have er : n + 1 - n = 0 + 1 := by omega
        obtain ⟨_, fk, _⟩ := row_read HO.out n (by simp [hRl])
        have kn1 : (n : Int) < (n : Int) + 1 := by omega
        have kn2 : n < n + 1 := by omega
        have ST := row_store HO.out n cv
        rw [er, set_end R 0 cv n hRl, List.replicate_zero, List.append_nil] at ST
        have BS := Lib.hid (HB.out.setCell (p := ⟨w.heap.size, n, none⟩) (Nat.le_refl _) (.int .i64 cv))
        obtain ⟨DR, DV⟩ := HA.out.done (by rw [← hl.out]; exact Nat.le_refl _) (by rw [← hl'.out]; omega)
        have NR := nr_of_own ST (by simp [hRl]) (by omega) (Nat.le_refl _)
        have NT := NR.take (tr (R ++ [cv])).length (by have := tr_le (R ++ [cv]); rw [List.length_append, List.length_singleton, hRl] at this; omega)
        rw [← (tr_take (R ++ [cv])).1] at NT
        have TL := tr_le (R ++ [cv])
        have TLm := tr_limbs (R ++ [cv]) DR
        have TV : vl (tr (R ++ [cv])) = vl L + vl M := by rw [tr_val, DV] <;> omega
        have tl2 : (tr (R ++ [cv])).length ≤ n + 1 := by rw [List.length_append, List.length_singleton, hRl] at TL; omega
        have TA := Lib.hid (trim_any NR)
        generalize hT : tr (R ++ [cv]) = S at *
        have LM := Lib.hid (limited_any (some ⟨w.heap.size, 0, none⟩) S.length (n + 1) (wr.setCell ⟨w.heap.size, n, none⟩ (.int .i64 cv)) (by omega))
        replace NT := Lib.hid NT
        replace TV := Lib.hid TV
        clear NR ST er TL hT DR DV HO HA hRl
        go_wp2_with fail
        refine TA.out.mono ?_
        rintro e w2 ⟨rfl, hw⟩
        subst hw
        clear TA
        go_wp2_with fail
        refine LM.out.mono ?_
        rintro e w2 ⟨rfl, hw⟩
        subst hw
        go_wp2_with fail
        go_ret2
        exact ⟨⟨_, _, _, S, rfl, NT.out, TLm, TV.out, (by omega)⟩, BS.out⟩
end Nt
end Go.Proofs.YtaaeegjinblpiaaDoor
