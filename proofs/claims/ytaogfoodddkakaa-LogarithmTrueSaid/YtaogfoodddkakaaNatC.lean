/- Contracts of package nat: mul with one limb, Mul. -/
import Derived.Test.YtaogfoodddkakaaNatB
namespace Go.Proofs.Ytaogfoodddkakaa
open Go.RowKit
namespace Nat'
theorem retS {a : Option Addr} {n m c : Nat} (h : n = m) : Ending.returned (.slice a n c) = .returned (.slice a m c) := by rw [h]
set_option maxHeartbeats 2000000 in
theorem mul_one (g c n g' c' : Nat) (L : List Int) (y : Int) (w : World) (hs : Sl w g c L) (hs' : Sl w g' c' [y]) (hv : VL L) (hn : n = L.length) (h63 : n ≤ 63) (y0 : 1 ≤ y) (y1 : y ≤ 1073741823) :
    Calls Try.prog 29 #[.slice (some ⟨g, 0, none⟩) n c, .slice (some ⟨g', 0, none⟩) 1 c'] w fun e w' => ∃ p q, e = .returned (.slice (some ⟨p, 0, none⟩) (pr L y).length q) ∧ Sl w' p q (pr L y) ∧ Below w.heap.size w w' := by
  have h1 := hs.pos
  have h2 := hs.le
  rw [← hn] at h1 h2
  have h1' : 1 ≤ c' := hs'.le
  have c0 : w.cell? ⟨g', 0, none⟩ = some (.int .i64 y) := hs'.cells 0 (show 0 < 1 by decide)
  have HS := Lib.hid hs
  have HS' := Lib.hid hs'
  have HV := Lib.hid hv
  replace hn := Lib.hid hn
  clear hs hs' hv
  obtain ⟨i0, hi, hz0, hz1, hz2⟩ := info_parts infoI
  go_enter Try.func29, Try.ntmps29
  go_wp2_with (refine wpList_make_ints _ rfl _ _ 26 rfl 3 i0 Try.underlying26 hi hz0 hz1 hz2 _ _ (n + 1) rfl rfl (by omega) (by omega) (by omega) ?_; intro w1 hown hb)
  have hown0 : Buf.Own w.heap.size w1 (.slice (some ⟨w.heap.size, 0, none⟩) (n + 1) (n + 1)) (iv (pl L y 0)) := by rw [pl_zero, ← hn.out]; exact hown
  clear hown
  go_loopw [19] (fun i wr => ∃ k : Nat, k ≤ n ∧ i = .int .i64 k ∧ Buf.Own w.heap.size wr (.slice (some ⟨w.heap.size, 0, none⟩) (n + 1) (n + 1)) (iv (pl L y k)) ∧ Below w.heap.size w wr) (fun i _ => (n - intOf i).toNat)
  case atStart => exact ⟨0, Nat.zero_le _, rfl, hown0, hb⟩
  case round =>
    obtain ⟨k, hk, rfl, hown, hbel⟩ := hrel
    clear hown0 hb
    obtain ⟨wo, rfl⟩ : ∃ wo, wo = wr := ⟨_, rfl⟩
    have sl := HS.out.below hbel
    have sl' := HS'.out.below hbel
    have HW := Lib.hid hown
    have HB := Lib.hid hbel
    by_cases hlt : k < n
    · have hlen : Hid ((pl L y k).length = n + 1) := by rw [pl_length, ← hn.out]; exact Lib.hid rfl
      obtain ⟨rk, fk, _⟩ := row_read hown k (by have := hlen.out; omega)
      obtain ⟨_, fk1, _⟩ := row_read hown (k + 1) (by have := hlen.out; omega)
      obtain ⟨rk1, _, _⟩ := row_read hown (k + 1) (by have := hlen.out; omega)
      have ck := sl.cells k (by have := hn.out; omega)
      have cy : wo.cell? ⟨g', 0, none⟩ = some (.int .i64 y) := sl'.cells 0 (show 0 < 1 by decide)
      have ek : (pl L y k).getD k 0 = cr L y k := by rw [pl_at L y k k (by have := hn.out; omega), if_neg (by omega), if_pos rfl]
      rw [ek] at rk
      obtain ⟨b0, b1⟩ := cr_bd L y HV.out.lo HV.out.hi y0 y1 k
      obtain ⟨p0, p1⟩ := prod_bd L y HV.out.lo HV.out.hi y0 y1 k
      have st := pl_step L y k
      have ed : dgt L y k = (cr L y k + L.getD k 0 * y) % 1073741824 := rfl
      have ec : cr L y (k + 1) = (cr L y k + L.getD k 0 * y) / 1073741824 := rfl
      rw [ed, ec] at st
      replace st := Lib.hid st
      have x0 := HV.out.lo k
      have x1 := HV.out.hi k
      clear sl sl' hown hbel ek ed ec
      generalize L.getD k 0 = X at *
      generalize cr L y k = C at *
      generalize (pl L y k).getD (k + 1) 0 = Z at *
      have k0 : (0 : Int) ≤ (k : Int) := by omega
      have k1 : (k : Int) < (n : Int) + 1 := by omega
      have k2 : (k : Int) + 1 < (n : Int) + 1 := by omega
      go_wp2
      go_loopw [8, 26] (fun u i wr => (u = .int .i64 0 ∧ i = .int .i64 0 ∧ wr = wo) ∨ (u = .int .i64 ((C + X * y) / 1073741824) ∧ i = .int .i64 1 ∧ wr = wo.setCell ⟨w.heap.size, k, none⟩ (.int .i64 ((C + X * y) % 1073741824)))) (fun _ i _ => (1 - intOf i).toNat)
      case atStart => exact .inl ⟨rfl, rfl, rfl⟩
      case round =>
        rcases hrel with ⟨rfl, rfl, rfl⟩ | ⟨rfl, rfl, rfl⟩
        · go_wp2
          go_roundw
          case rel => exact .inr ⟨rfl, rfl, trivial⟩
          case measure => simp [intOf]
        · go_wp2
          go_roundw
          case rel => exact ⟨k + 1, by omega, by go_num, by have := row_store (row_store HW.out k ((C + X * y) % 1073741824)) (k + 1) ((C + X * y) / 1073741824); rw [st.out] at this; exact this, (HB.out.setCell (Nat.le_refl _) _).setCell (Nat.le_refl _) _⟩
          case measure => simp [intOf]; omega
    · obtain rfl : k = n := by omega
      obtain ⟨sp, _, _, _⟩ := pr_spec L y HV.out (by have := hn.out; omega) y0 y1
      have hlen : (pl L y k).length = k + 1 := by rw [pl_length, ← hn.out]
      have hpr : pr L y = if cr L y k = 0 then (pl L y k).take k else pl L y k := by unfold pr; rw [← hn.out]
      have ek : (pl L y k).getD k 0 = cr L y k := by rw [pl_at L y k k (by have := hn.out; omega), if_neg (by omega), if_pos rfl]
      have lst := sp.last
      have RR := Lib.hid fun j (hj : j < k + 1) => row_read hown j (by omega)
      by_cases hz : cr L y k = 0
      · rw [if_pos hz] at hpr
        have hl : (pr L y).length = k := by rw [hpr, List.length_take, hlen]; omega
        rw [hl, hpr, getD_take _ _ _ (by omega)] at lst
        have r1 := (RR.out (k - 1) (by omega)).1
        have r2 := (RR.out k (by omega)).1
        rw [ek, hz] at r2
        have SL : Hid (Sl wo w.heap.size (k + 1) (pr L y)) := Lib.hid ⟨by omega, by omega, by omega, fun j hj => by rw [hpr, getD_take _ _ _ (by omega)]; exact (RR.out j (by omega)).1⟩
        have HP := Lib.hid hpr
        have HL := Lib.hid hl
        clear hpr hl hz ek hlen sp sl sl' hown hbel RR
        generalize (pl L y k).getD (k - 1) 0 = x at *
        go_wp2_with (go_at_call 38; refine (trim_one _ k (k + 1) x _ h1 (by omega) (Nat.le_refl _) lst r1 r2).mono ?_; rintro e w4 ⟨rfl, rfl⟩)
        go_ret
        exact ⟨w.heap.size, k + 1, retS HL.out.symm, SL.out, HB.out⟩
      · rw [if_neg hz] at hpr
        have hl : (pr L y).length = k + 1 := by rw [hpr, hlen]
        rw [hl, hpr, Nat.add_sub_cancel] at lst
        have r1 := (RR.out k (by omega)).1
        have SL : Hid (Sl wo w.heap.size (k + 1) (pr L y)) := Lib.hid ⟨by omega, by omega, by omega, fun j hj => by rw [hpr]; exact (RR.out j (by omega)).1⟩
        have HP := Lib.hid hpr
        have HL := Lib.hid hl
        clear hpr hl hz ek hlen sp sl sl' hown hbel RR
        generalize (pl L y k).getD k 0 = x at *
        go_wp2_with (go_at_call 38; refine (trim_keep _ (k + 1) (k + 1) x _ (by omega) (by omega) (Nat.le_refl _) lst r1).mono ?_; rintro e w4 ⟨rfl, rfl⟩)
        go_ret
        exact ⟨w.heap.size, k + 1, retS HL.out.symm, SL.out, HB.out⟩
/-- A product with one limb. -/
theorem Mul_one (g c n g' c' : Nat) (L : List Int) (y : Int) (w : World) (hs : Sl w g c L) (hs' : Sl w g' c' [y]) (hv : VL L) (hn : n = L.length) (h63 : n ≤ 63) (y0 : 1 ≤ y) (y1 : y ≤ 1073741823) :
    Calls Try.prog 14 #[.slice (some ⟨g, 0, none⟩) n c, .slice (some ⟨g', 0, none⟩) 1 c'] w fun e w' => ∃ p q, e = .returned (.tuple #[.slice (some ⟨p, 0, none⟩) (pr L y).length q, .int .i64 0]) ∧ Sl w' p q (pr L y) ∧ Below w.heap.size w w' := by
  have V1 := Lib.hid (valid_any g c n L w hs hv hn)
  have V2 := Lib.hid (valid_any g' c' 1 [y] w hs' ⟨fun j => by cases j <;> simp [List.getD] <;> omega, fun j => by cases j <;> simp [List.getD] <;> omega, y0⟩ rfl)
  have M := Lib.hid (mul_one g c n g' c' L y w hs hs' hv hn h63 y0 y1)
  have hl := (pr_spec L y hv hs.pos y0 y1).2.2.2
  have hl64 : (pr L y).length ≤ 64 := by omega
  clear hs hs' hv hn hl
  go_enter Try.func14, Try.ntmps14
  go_wp2_with (go_at_call 23; (first | with_reducible refine V1.out.mono ?_ | with_reducible refine V2.out.mono ?_); rintro e w4 ⟨rfl, rfl⟩)
  refine M.out.mono ?_
  rintro e w1 ⟨p, q, rfl, hsl, hb⟩
  go_wp2_with (go_at_call 28; refine (limited_any _ _ _ _ hl64).mono ?_; rintro e w4 ⟨rfl, rfl⟩)
  go_ret2
  exact ⟨p, q, rfl, hsl, hb⟩
end Nat'
end Go.Proofs.Ytaogfoodddkakaa
