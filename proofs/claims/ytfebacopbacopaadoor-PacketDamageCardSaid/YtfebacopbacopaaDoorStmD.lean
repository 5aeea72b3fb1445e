/- differences, allFit, nextCode, pack. -/
import Derived.Test.YtfebacopbacopaaDoorStmC
import Derived.Test.YtfebacopbacopaaDoorRowI
set_option linter.unusedVariables false
set_option linter.unusedSimpArgs false
namespace Go.Proofs.YtfebacopbacopaaDoor
open Go.RowKit Dice Ri
namespace St
theorem ro_any {B : Nat} {w : World} {v : Value} {L : List Int} (h : Buf.Own B w v (iv L)) : ∃ (a : Option Addr) (n c : Nat), v = .slice a n c ∧ Ro w a n c L := by
  rcases id h with ⟨rfl, e⟩ | ⟨g, cap, rfl, b⟩
  · have : L = [] := by cases L with
      | nil => rfl
      | cons x l => simp [iv] at e
    subst this
    exact ⟨none, 0, 0, rfl, rfl, Nat.le_refl _, by omega, fun h => absurd h (Nat.lt_irrefl 0)⟩
  · refine ⟨_, _, _, rfl, ⟨iv_length L, b.le, by have := b.max; unfold maxLen at this; omega, fun h0 => ⟨g, 0, rfl, b.lt, fun j x hx => ?_⟩⟩⟩
    obtain ⟨hj, e⟩ := List.getElem?_eq_some_iff.1 hx
    rw [Nat.zero_add]
    have := (row_read h j hj).1
    rw [List.getD_eq_getElem?_getD, hx] at this
    exact this
theorem ro_own {B : Nat} {w : World} {v : Value} {L : List Int} (h : Buf.Own B w v (iv L)) (_h9 : L.length ≤ 100000) (_hc : ∀ a n c, v = .slice a n c → c ≤ 1000000) : ∃ (a : Option Addr) (n c : Nat), v = .slice a n c ∧ Ro w a n c L := ro_any h
def dk (L : List Int) (n k : Nat) : List Int := (df L).take k ++ List.replicate (n - k) 0
theorem dk_start (L : List Int) (n : Nat) (hn : n = L.length) : dk L n 1 = List.replicate n 0 := by
  unfold dk
  cases L with
  | nil => simp at hn; subst hn; rfl
  | cons x l =>
    obtain ⟨m, rfl⟩ : ∃ m, n = m + 1 := ⟨n - 1, by simp at hn; omega⟩
    simp [df, List.replicate_succ]
theorem dk_end (L : List Int) (n k : Nat) (hn : n = L.length) (hk : n ≤ k) : dk L n k = df L := by
  unfold dk
  rw [show n - k = 0 by omega, List.replicate_zero, List.append_nil, List.take_of_length_le (by rw [df_length]; omega)]
theorem dk_len (L : List Int) (n k : Nat) (hn : n = L.length) (hk : k ≤ n) : (dk L n k).length = n := by
  unfold dk; rw [List.length_append, List.length_take, df_length, List.length_replicate]; omega
theorem dk_set (L : List Int) (n k : Nat) (hn : n = L.length) (hk : k < n) (h0 : 1 ≤ k) (v : Int) (hv : v = L.getD k 0 - L.getD (k - 1) 0) : (dk L n k).set k v = dk L n (k + 1) := by
  have hl : ((df L).take k).length = k := by rw [List.length_take, df_length]; omega
  have hg := df_get L k (by omega)
  rw [if_neg (by omega), ← hv] at hg
  obtain ⟨hj, e⟩ := List.getElem?_eq_some_iff.1 hg
  unfold dk
  rw [List.set_append_right _ _ (by omega), hl, Nat.sub_self, show n - k = (n - (k + 1)) + 1 by omega, List.replicate_succ, List.set_cons_zero, List.take_succ_eq_append_getElem hj, e, List.append_assoc]
  rfl
set_option maxHeartbeats 4000000 in
set_option maxRecDepth 100000 in
theorem differences_any {w : World} {a : Option Addr} {n c : Nat} {L : List Int} (h : Ro w a n c L) (h9 : n ≤ 100000) (hL : InS L) :
    Calls Tryd.prog 60 #[.slice a n c] w fun e w' => (∃ b m, e = .returned (.slice b n m) ∧ Ro w' b n m (df L)) ∧ Below w.heap.size w w' := by
  have hnc := h.nc
  have hcc := h.cap
  have hl := Lib.hid h.len
  have H := Lib.hid h
  replace hL := Lib.hid hL
  obtain ⟨i0, hi, hz0, hz1, hz2⟩ := info_parts infoI
  clear h
  go_enter Tryd.func60, Tryd.ntmps60
  go_wp2_with (refine wpList_make_ints _ rfl _ _ 22 rfl 3 i0 Tryd.underlying22 hi hz0 hz1 hz2 _ _ n rfl rfl (by omega) (by omega) (by omega) ?_; intro w1 hown hb)
  replace hb := Lib.hid hb
  have hown0 : Hid (Buf.Own w.heap.size w1 (.slice (some ⟨w.heap.size, 0, none⟩) n n) (iv (dk L n 1))) := Lib.hid (by rw [dk_start L n hl.out]; exact hown)
  clear hown
  go_loopw [4] (fun i wr => ∃ k : Nat, 1 ≤ k ∧ (k ≤ n ∨ k = 1) ∧ i = .int .i64 (k : Int) ∧ Hid (Buf.Own w.heap.size wr (.slice (some ⟨w.heap.size, 0, none⟩) n n) (iv (dk L n k))) ∧ Hid (Below w.heap.size w wr)) (fun i _ => n - (intOf i).toNat)
  case atStart => exact ⟨1, by omega, .inr rfl, rfl, hown0, hb⟩
  case round =>
    clear hown0 hb
    obtain ⟨k, k1, hk, rfl, HO, HB⟩ := hrel
    by_cases hlt : k < n
    · have HN := Lib.hid (H.out.below HB.out)
      obtain ⟨g, o, rfl⟩ := HN.out.form (by omega)
      have cx := HN.out.cell k hlt
      have cy := HN.out.cell (k - 1) (by omega)
      obtain ⟨x, hx⟩ : ∃ x, x = L.getD k 0 := ⟨_, rfl⟩
      obtain ⟨y, hy⟩ : ∃ y, y = L.getD (k - 1) 0 := ⟨_, rfl⟩
      rw [← hx] at cx
      rw [← hy] at cy
      obtain ⟨j, hj⟩ : ∃ j, j = k - 1 := ⟨_, rfl⟩
      rw [← hj] at cy
      have ej : (k : Int) - 1 = (j : Int) := by omega
      obtain ⟨_, fk, _⟩ := row_read HO.out k (by rw [dk_len L n k hl.out (by omega)]; exact hlt)
      have inL : ∀ i, i < n → -1073741823 ≤ L.getD i 0 ∧ L.getD i 0 ≤ 1073741823 := fun i hi => hL.out _ (by rw [List.getD_eq_getElem?_getD, List.getElem?_eq_getElem (by rw [← hl.out]; exact hi)]; exact List.getElem_mem _)
      obtain ⟨x0, x1⟩ := inL k hlt
      obtain ⟨y0, y1⟩ := inL (k - 1) (by omega)
      rw [← hx] at x0 x1
      rw [← hy] at y0 y1
      have ST := row_store HO.out k (x - y)
      rw [dk_set L n k hl.out hlt k1 (x - y) (by rw [hx, hy])] at ST
      replace ST := Lib.hid ST
      have BS := Lib.hid (HB.out.setCell (p := ⟨w.heap.size, k, none⟩) (Nat.le_refl _) (.int .i64 (x - y)))
      have kn : (k : Int) < n := by omega
      have jn : (j : Int) < n := by omega
      have jn' : j < n := by omega
      replace hx := Lib.hid hx
      replace hy := Lib.hid hy
      replace hj := Lib.hid hj
      clear HO inL
      go_wp2_with fail
      go_region
      all_goals
        go_wp2_with fail
        go_roundw
        case rel => exact ⟨k + 1, by omega, .inl (by omega), by go_num, Lib.hid (ST.out.below (Below.refl _ _).drew), Lib.hid BS.out.drew⟩
        case measure => simp [intOf]; omega
    · have hnk : ¬ ((k : Int) < n) := by omega
      have OW := HO.out
      rw [dk_end L n k hl.out (by omega)] at OW
      obtain ⟨b, m, d, e, R⟩ := ro_own OW (by rw [df_length, ← hl.out]; exact h9) (fun a n' c' e => by injection e with _ _ e3; omega)
      injection e with e1 e2 e3
      subst e1 e2 e3
      replace R := Lib.hid R
      clear HO OW
      go_wp2_with fail
      go_ret
      exact ⟨⟨_, _, rfl, R.out⟩, HB.out⟩
set_option maxHeartbeats 2000000 in
theorem fits_any (n b : Int) (k : Nat) (w : World) (hb : b = (k : Int)) (hk : k = 8 ∨ k = 16 ∨ k = 32) :
    Calls Tryd.prog 64 #[.int .i64 n, .int .i64 b] w fun e w' => e = .returned (.bool (decide (In (2 ^ (k - 1)) n))) ∧ Below w.heap.size w w' := by
  subst hb
  by_cases h : In (2 ^ (k - 1)) n
  · rw [decide_eq_true h]
    obtain ⟨h1, h2⟩ := h
    refine (Bits.fits_yes n k w (by omega) (by omega) (by rw [Int.toNat_natCast]; exact h1) (by rw [Int.toNat_natCast]; exact h2)).mono fun e w' ⟨h, hm⟩ => ⟨h, bel_drew hm⟩
  · rw [decide_eq_false h]
    refine (Bits.fits_no n k w (by
      unfold In at h
      rw [Int.toNat_natCast]
      omega)).mono fun e w' ⟨h, hm⟩ => ⟨h, bel_drew hm⟩
set_option maxHeartbeats 4000000 in
set_option maxRecDepth 100000 in
theorem allFit_any {w : World} {a : Option Addr} {n c : Nat} {L : List Int} (h : Ro w a n c L) (q k : Nat) (hk : k = 8 ∨ k = 16 ∨ k = 32) (hq : q ≤ 4) :
    Calls Tryd.prog 78 #[.slice a n c, .int .i64 q, .int .i64 k] w fun e w' => e = .returned (.bool (decide (Fit L q (2 ^ (k - 1))))) ∧ Below w.heap.size w w' := by
  have hnc := h.nc
  have hcc := h.cap
  have hl := Lib.hid h.len
  have H := Lib.hid h
  clear h
  by_cases hlt : n < q
  · have hd : decide (Fit L q (2 ^ (k - 1))) = false := decide_eq_false fun hf => by have := hf.1; rw [← hl.out] at this; omega
    rw [hd]
    have hi : (n : Int) < q := by omega
    go_enter Tryd.func78, Tryd.ntmps78
    go_wp2
    go_ret
    exact ⟨rfl, Below.refl _ _⟩
  · have hi : ¬ ((n : Int) < q) := by omega
    have hi2 : (q : Int) ≤ n := by omega
    have hqc : (q : Int) ≤ c := by omega
    have HT := Lib.hid (H.out.take q (by omega))
    have hlq : q ≤ L.length := by rw [← hl.out]; omega
    obtain ⟨r, hr⟩ : ∃ r, r = decide (Fit L q (2 ^ (k - 1))) := ⟨_, rfl⟩
    rw [← hr]
    replace hr := Lib.hid hr
    have FA := Lib.hid fun m w' => fits_any m (k : Int) k w' rfl hk
    go_enter Tryd.func78, Tryd.ntmps78
    go_wp2_with fail
    go_loopw [17] (fun i wr => ∃ j : Nat, j ≤ q ∧ i = .int .i64 (j : Int) ∧ Hid (∀ x ∈ L.take j, In (2 ^ (k - 1)) x) ∧ Hid (Below w.heap.size w wr)) (fun i _ => q - (intOf i).toNat)
    case atStart => exact ⟨0, by omega, rfl, Lib.hid (fun x hx => by simp at hx), Lib.hid (Below.refl _ _)⟩
    case round =>
      obtain ⟨j, hj, rfl, HF, HB⟩ := hrel
      by_cases hjq : j < q
      · have HN := Lib.hid (HT.out.below HB.out)
        obtain ⟨g, o, rfl⟩ := HN.out.form (by omega)
        have cx := HN.out.cell j hjq
        obtain ⟨x, hx⟩ : ∃ x, L[j]? = some x := ⟨L[j]'(by omega), List.getElem?_eq_getElem _⟩
        have ex : (L.take q).getD j 0 = x := by rw [List.getD_eq_getElem?_getD, List.getElem?_take_of_lt hjq, hx]; rfl
        rw [ex] at cx
        have ht : L.take (j + 1) = L.take j ++ [x] := by
          obtain ⟨h1, e1⟩ := List.getElem?_eq_some_iff.1 hx
          rw [List.take_succ_eq_append_getElem h1, e1]
        have ji : (j : Int) < q := by omega
        by_cases hin : In (2 ^ (k - 1)) x
        · have HF2 := Lib.hid (show ∀ y ∈ L.take (j + 1), In (2 ^ (k - 1)) y by
            rw [ht]; intro y hy
            rcases List.mem_append.1 hy with hy | hy
            · exact HF.out y hy
            · rw [List.mem_singleton] at hy; rw [hy]; exact hin)
          have FX := Lib.hid (FA.out x wr)
          rw [decide_eq_true hin] at FX
          clear hx ex ht hin
          go_wp2_with fail
          with_reducible refine FX.out.mono ?_
          rintro e w2 ⟨rfl, hb⟩
          have B2 := Lib.hid (Buf.then_ HB.out hb)
          clear hb
          go_wp2_with fail
          go_roundw
          case rel => exact ⟨j + 1, by omega, by go_num, HF2, B2⟩
          case measure => simp [intOf]; omega
        · have hrf : r = false := by
            rw [hr.out]
            refine decide_eq_false fun hf => hin (hf.2 x ?_)
            have : L.take q = L.take (j + 1) ++ (L.take q).drop (j + 1) := by
              conv => lhs; rw [← List.take_append_drop (j + 1) (L.take q)]
              rw [List.take_take, Nat.min_eq_left (by omega)]
            rw [this, ht]; simp
          subst hrf
          have FX := Lib.hid (FA.out x wr)
          rw [decide_eq_false hin] at FX
          clear hx ex ht hin
          go_wp2_with fail
          with_reducible refine FX.out.mono ?_
          rintro e w2 ⟨rfl, hb⟩
          have B2 := Lib.hid (Buf.then_ HB.out hb)
          clear hb
          go_wp2_with fail
          go_ret
          exact ⟨rfl, B2.out⟩
      · obtain rfl : q = j := by omega
        have hnk : ¬ ((q : Int) < q) := by omega
        have hrt : r = true := by rw [hr.out]; exact decide_eq_true ⟨hlq, HF.out⟩
        subst hrt
        go_wp2_with fail
        go_ret
        exact ⟨rfl, HB.out⟩
end St
end Go.Proofs.YtfebacopbacopaaDoor
