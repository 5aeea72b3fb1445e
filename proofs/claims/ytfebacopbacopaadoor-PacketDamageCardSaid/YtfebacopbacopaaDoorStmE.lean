/- nextCode, pack. -/
import Derived.Test.YtfebacopbacopaaDoorStmD
set_option linter.unusedVariables false
set_option linter.unusedSimpArgs false
namespace Go.Proofs.YtfebacopbacopaaDoor
open Go.RowKit Dice Ri
namespace St
theorem cells2 {w : World} {b : Nat} {x y : Value} {t : TypeId} (h : w.heap[b]? = some (.cells #[x, y] t (0, 0))) : w.cell? ⟨b, 0, none⟩ = some x ∧ w.cell? ⟨b, 1, none⟩ = some y :=
  ⟨cell_of_row w b 0 _ _ _ h, cell_of_row w b 1 _ _ _ h⟩
theorem hb_ {w w' : World} {b : Nat} {o : Obj} (h : Below w.heap.size w w') (k : w.heap[b]? = some o) : w'.heap[b]? = some o :=
  (h.block b (Array.getElem?_eq_some_iff.1 k).1).trans k
set_option maxHeartbeats 4000000 in
set_option maxRecDepth 100000 in
theorem nextCode_any {w : World} {a : Option Addr} {n c : Nat} {L : List Int} (h : Ro w a n c L) :
    Calls Tryd.prog 61 #[.slice a n c] w fun e w' => e = .returned (.int .i64 (cd L : Nat)) ∧ Below w.heap.size w w' := by
  have F1 : Hid (∀ w', Below w.heap.size w w' → Calls Tryd.prog 78 #[.slice a n c, .int .i64 4, .int .i64 8] w' fun e w'' => e = .returned (.bool (decide (Fit L 4 128))) ∧ Below w'.heap.size w' w'') := Lib.hid fun w' hb => allFit_any (h.below hb) 4 8 (by omega) (by omega)
  have F2 : Hid (∀ w', Below w.heap.size w w' → Calls Tryd.prog 78 #[.slice a n c, .int .i64 2, .int .i64 16] w' fun e w'' => e = .returned (.bool (decide (Fit L 2 32768))) ∧ Below w'.heap.size w' w'') := Lib.hid fun w' hb => allFit_any (h.below hb) 2 16 (by omega) (by omega)
  have L1 : Hid (∀ w', Calls Tryd.prog 62 #[.int .i64 1] w' fun e w'' => e = .returned (.tuple #[.int .i64 4, .int .i64 8]) ∧ w'' = w') := Lib.hid (layout_any 1 (by omega))
  have L2 : Hid (∀ w', Calls Tryd.prog 62 #[.int .i64 2] w' fun e w'' => e = .returned (.tuple #[.int .i64 2, .int .i64 16]) ∧ w'' = w') := Lib.hid (layout_any 2 (by omega))
  clear h
  obtain ⟨wb, hwb⟩ : ∃ wb, wb = w.alloc (.cells #[.int .i64 1, .int .i64 2] 3) := ⟨_, rfl⟩
  obtain ⟨b, hbn⟩ : ∃ b, b = w.heap.size := ⟨_, rfl⟩
  have B0 := Lib.hid (show Below w.heap.size w wb by rw [hwb]; exact new_block _)
  have K := Lib.hid (show wb.heap[b]? = some (.cells #[.int .i64 1, .int .i64 2] 3 (0, 0)) by rw [hwb, hbn]; exact heap_alloc_new w _)
  replace hwb := Lib.hid hwb
  replace hbn := Lib.hid hbn
  obtain ⟨r, hr⟩ : ∃ r, r = cd L := ⟨_, rfl⟩
  rw [← hr]
  replace hr := Lib.hid hr
  go_enter Tryd.func61, Tryd.ntmps61
  go_wp2_with fail
  rw [← hwb.out, ← hbn.out]
  go_loopw [9] (fun i wr => ∃ j : Nat, j ≤ 2 ∧ i = .int .i64 (j : Int) ∧ Hid (1 ≤ j → ¬ Fit L 4 128) ∧ Hid (2 ≤ j → ¬ Fit L 2 32768) ∧ Hid (Below wb.heap.size wb wr)) (fun i _ => 2 - (intOf i).toNat)
  case atStart => exact ⟨0, by omega, rfl, Lib.hid (fun h => by omega), Lib.hid (fun h => by omega), Lib.hid (Below.refl _ _)⟩
  case round =>
    obtain ⟨j, hj, rfl, H1, H2, HB⟩ := hrel
    obtain ⟨k0, k1⟩ := cells2 (hb_ HB.out K.out)
    have BW := Lib.hid (Buf.then_ B0.out HB.out)
    rcases (show j = 0 ∨ j = 1 ∨ j = 2 by omega) with rfl | rfl | rfl
    · have FX := F1.out _ BW.out
      obtain ⟨r1, hr1⟩ : ∃ r1, r1 = decide (Fit L 4 128) := ⟨_, rfl⟩
      rw [← hr1] at FX
      replace FX := Lib.hid FX
      replace hr1 := Lib.hid hr1
      go_wp2_with fail
      with_reducible refine (L1.out _).mono ?_
      rintro e w1 ⟨rfl, hw⟩
      replace hw := hw.symm
      subst hw
      go_wp2_with fail
      with_reducible refine FX.out.mono ?_
      rintro e w2 ⟨rfl, hb⟩
      have B2 := Lib.hid (Buf.then_ BW.out hb)
      have B3 := Lib.hid (Buf.then_ HB.out hb)
      clear hb k0 k1
      cases r1
      · go_wp2_with fail
        go_roundw
        case rel => exact ⟨1, by omega, rfl, Lib.hid (fun _ hf => by have := hr1.out; rw [decide_eq_true hf] at this; cases this), Lib.hid (fun h => by omega), B3⟩
        case measure => simp [intOf]
      · have hf : Fit L 4 128 := of_decide_eq_true hr1.out.symm
        have hr' : r = 1 := by rw [hr.out]; unfold cd; rw [if_pos hf]
        subst hr'
        clear hf
        go_wp2_with fail
        go_ret
        exact ⟨rfl, B2.out⟩
    · have FX := F2.out _ BW.out
      obtain ⟨r1, hr1⟩ : ∃ r1, r1 = decide (Fit L 2 32768) := ⟨_, rfl⟩
      rw [← hr1] at FX
      replace FX := Lib.hid FX
      replace hr1 := Lib.hid hr1
      go_wp2_with fail
      with_reducible refine (L2.out _).mono ?_
      rintro e w1 ⟨rfl, hw⟩
      replace hw := hw.symm
      subst hw
      go_wp2_with fail
      with_reducible refine FX.out.mono ?_
      rintro e w2 ⟨rfl, hb⟩
      have B2 := Lib.hid (Buf.then_ BW.out hb)
      have B3 := Lib.hid (Buf.then_ HB.out hb)
      clear hb k0 k1
      cases r1
      · go_wp2_with fail
        go_roundw
        case rel => exact ⟨2, by omega, rfl, Lib.hid (fun _ => H1.out (by omega)), Lib.hid (fun _ hf => by have := hr1.out; rw [decide_eq_true hf] at this; cases this), B3⟩
        case measure => simp [intOf]
      · have hf : Fit L 2 32768 := of_decide_eq_true hr1.out.symm
        have hr' : r = 2 := by rw [hr.out]; unfold cd; rw [if_neg (H1.out (by omega)), if_pos hf]
        subst hr'
        clear hf
        go_wp2_with fail
        go_ret
        exact ⟨rfl, B2.out⟩
    · have hr' : r = 3 := by rw [hr.out]; unfold cd; rw [if_neg (H1.out (by omega)), if_neg (H2.out (by omega))]
      subst hr'
      clear k0 k1
      go_wp2_with fail
      go_ret
      exact ⟨rfl, BW.out⟩
theorem or_add (v r : Int) (s : Nat) (v0 : 0 ≤ v) (hv : v * 2 ^ s ≤ 4611686018427387904) (r0 : 0 ≤ r) (r1 : r < 2 ^ s) (hs : s ≤ 60) : bits .or .i64 (v * 2 ^ s) r = v * 2 ^ s + r := by
  obtain ⟨a, rfl⟩ := Int.eq_ofNat_of_zero_le v0
  obtain ⟨b, rfl⟩ := Int.eq_ofNat_of_zero_le r0
  have e : (a : Int) * 2 ^ s = ((2 ^ s * a : Nat) : Int) := by rw [Int.natCast_mul, Int.natCast_pow]; exact Int.mul_comm _ _
  have p : (2 : Int) ^ s ≤ 2 ^ 60 := (Ma.pow_bd s 60 hs).2
  have p2 : (2 : Int) ^ 60 = 1152921504606846976 := by decide
  have hb : b < 2 ^ s := by have : ((2 ^ s : Nat) : Int) = 2 ^ s := by rw [Int.natCast_pow]; rfl
                            omega
  rw [e] at hv ⊢
  have h := Ma.or_nat (2 ^ s * a) b (by omega) (by omega)
  rw [← Nat.two_pow_add_eq_or_of_lt hb a] at h
  rw [h]; exact Int.natCast_add _ _
set_option maxHeartbeats 4000000 in
set_option maxRecDepth 100000 in
theorem pack_any {w : World} {a : Option Addr} {n c : Nat} {L : List Int} (h : Ro w a n c L) (k : Nat) (hk : k = 8 ∨ k = 16 ∨ k = 32) (hn : k * n ≤ 32) (hf : ∀ x ∈ L, In (2 ^ (k - 1)) x) :
    Calls Tryd.prog 63 #[.slice a n c, .int .i64 k] w fun e w' => e = .returned (.int .i64 (pk k L)) ∧ Below w.heap.size w w' := by
  have hnc := h.nc
  have hcc := h.cap
  have hl := Lib.hid h.len
  have H := Lib.hid h
  replace hf := Lib.hid hf
  clear h
  obtain ⟨kk, hkk⟩ : ∃ kk, kk = k := ⟨_, rfl⟩
  rw [← hkk] at hf
  obtain ⟨ki, hki⟩ : ∃ ki : Int, ki = (k : Int) := ⟨_, rfl⟩
  rw [← hki]
  refine Calls.mono (R := fun e w' => e = .returned (.int .i64 (pk kk L)) ∧ Below w.heap.size w w') ?_ (fun e w' h => by rw [hkk] at h; exact h)
  rcases hk with rfl | rfl | rfl
  all_goals
    first
    | (have e8 : ki = 8 := id hki; clear hki; subst e8)
    | (have e8 : ki = 16 := id hki; clear hki; subst e8)
    | (have e8 : ki = 32 := id hki; clear hki; subst e8)
    replace hkk := Lib.hid hkk
    go_enter Tryd.func63, Tryd.ntmps63
    go_wp2_with fail
    go_loopw [5, 12] (fun v i wr => ∃ (j : Nat) (z : Int), j ≤ n ∧ i = .int .i64 (j : Int) ∧ v = .int .i64 z ∧ Hid (z = pk kk (L.take j)) ∧ Hid (Below w.heap.size w wr)) (fun _ i _ => n - (intOf i).toNat)
    case atStart => exact ⟨0, 0, by omega, rfl, rfl, Lib.hid rfl, Lib.hid (Below.refl _ _)⟩
    case round =>
      obtain ⟨j, z, hj, rfl, rfl, HZ, HB⟩ := hrel
      obtain ⟨z0, z9⟩ := pk_rng kk (L.take j)
      rw [← HZ.out] at z0 z9
      by_cases hjn : j < n
      · have HN := Lib.hid (H.out.below HB.out)
        obtain ⟨g, o, rfl⟩ := HN.out.form (by omega)
        have cx := HN.out.cell j hjn
        obtain ⟨x, hx⟩ : ∃ x, L[j]? = some x := ⟨L[j]'(by rw [← hl.out]; omega), List.getElem?_eq_getElem _⟩
        have ex : L.getD j 0 = x := by rw [List.getD_eq_getElem?_getD, hx]; rfl
        rw [ex] at cx
        have ht : L.take (j + 1) = L.take j ++ [x] := by
          obtain ⟨h1, e1⟩ := List.getElem?_eq_some_iff.1 hx
          rw [List.take_succ_eq_append_getElem h1, e1]
        obtain ⟨f1, f2⟩ := hf.out x (List.mem_of_getElem? hx)
        have ji : (j : Int) < n := by omega
        have hlj : (L.take j).length = j := by rw [List.length_take, ← hl.out]; omega
        have hz2 : z * 2 ^ kk ≤ 4294967296 := by
          rw [hlj] at z9
          have e1 : z * 2 ^ kk ≤ 2 ^ (kk * j) * 2 ^ kk := Int.mul_le_mul_of_nonneg_right (by omega) (Int.le_of_lt (Int.pow_pos (by decide)))
          rw [← Int.pow_add, show kk * j + kk = kk * (j + 1) by rw [Nat.mul_add, Nat.mul_one]] at e1
          have e2 : kk * (j + 1) ≤ 32 := by have := hkk.out; subst this; omega
          have e3 := (Ma.pow_bd _ _ e2).2
          have e4 : (2 : Int) ^ 32 = 4294967296 := by decide
          omega
        have hpn : pk kk (L.take (j + 1)) = z * 2 ^ kk + x % 2 ^ kk := by rw [ht, pk_snoc, ← HZ.out]
        have m0 : 0 ≤ x % 2 ^ kk := Int.emod_nonneg _ (by have : (0 : Int) < 2 ^ kk := Int.pow_pos (by decide)
                                                          omega)
        have m1 : x % 2 ^ kk < 2 ^ kk := Int.emod_lt_of_pos _ (Int.pow_pos (by decide))
        have ho := or_add z (x % 2 ^ kk) kk z0 (by omega) m0 m1 (by have := hkk.out; omega)
        have hwr := fun w' => Bits.wrap_yes x kk w' (by have := hkk.out; omega) (by have := hkk.out; omega) (by rw [Int.toNat_natCast]; exact f1) (by rw [Int.toNat_natCast]; exact f2)
        have hk2 := hkk.out
        subst hk2
        simp only [Int.reducePow, Int.toNat_natCast, Nat.reduceSub] at hz2 ho hpn m0 m1 f1 f2 hwr
        replace hwr := Lib.hid hwr
        replace hpn := Lib.hid hpn
        clear hx ex ht hlj z9
        go_wp2_with fail
        refine (hwr.out _).mono ?_
        rintro e w2 ⟨rfl, hm⟩
        have B2 := Lib.hid (Buf.then_ HB.out (bel_drew hm))
        clear hm
        go_wp2_with fail
        exact ⟨⟨j + 1, _, by omega, by go_num, rfl, Lib.hid hpn.out.symm, B2⟩, by simp [intOf]; omega⟩
      · obtain rfl : n = j := by omega
        have hnk : ¬ ((n : Int) < n) := by omega
        rw [hl.out, List.take_length] at HZ
        clear z9
        go_wp2_with fail
        go_ret
        exact ⟨by rw [← HZ.out]; rfl, HB.out⟩
end St
end Go.Proofs.YtfebacopbacopaaDoor
