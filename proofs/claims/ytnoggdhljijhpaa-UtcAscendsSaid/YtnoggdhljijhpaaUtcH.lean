/- Parse of the text that Format returns. -/
import Derived.Test.YtnoggdhljijhpaaUtcT
import Derived.Test.YtnoggdhljijhpaaUtcG
set_option linter.unusedVariables false
set_option linter.unusedSimpArgs false
namespace Go.Proofs.Ytnoggdhljijhpaa
open Go.RowKit
namespace Utc
theorem dg_dgc (n k : Nat) : Dg (dgc n k) := by
  have : (dgc n k).toNat = 48 + n / 10 ^ k % 10 := by
    unfold dgc
    rw [UInt8.toNat_ofNat']
    omega
  unfold Dg; rw [this]; omega
theorem dv_dgc (n k : Nat) : dv (dgc n k) = ((n / 10 ^ k % 10 : Nat) : Int) := by
  have : (dgc n k).toNat = 48 + n / 10 ^ k % 10 := by
    unfold dgc
    rw [UInt8.toNat_ofNat']
    omega
  unfold dv; rw [this]; omega
theorem val_2 (n : Nat) (h : n < 100) : (10 * (10 * 0 + dv (dgc n 1)) + dv (dgc n 0)) = (n : Int) := by
  simp only [dv_dgc]
  omega
theorem numb_2 (n : Nat) (h : n < 100) (w : World) :
    Calls Try.prog 37 #[.string ⟨⟨[dgc n 1, dgc n 0]⟩⟩] w fun e w' => e = .returned (.int .i64 n) ∧ w' = w := by
  have := number_2 (dgc n 1) (dgc n 0) (dg_dgc n 1) (dg_dgc n 0) w
  rwa [val_2 n h] at this
theorem val_4 (n : Nat) (h : n < 10000) : (10 * (10 * (10 * (10 * 0 + dv (dgc n 3)) + dv (dgc n 2)) + dv (dgc n 1)) + dv (dgc n 0)) = (n : Int) := by
  simp only [dv_dgc]
  omega
theorem numb_4 (n : Nat) (h : n < 10000) (w : World) :
    Calls Try.prog 37 #[.string ⟨⟨[dgc n 3, dgc n 2, dgc n 1, dgc n 0]⟩⟩] w fun e w' => e = .returned (.int .i64 n) ∧ w' = w := by
  have := number_4 (dgc n 3) (dgc n 2) (dgc n 1) (dgc n 0) (dg_dgc n 3) (dg_dgc n 2) (dg_dgc n 1) (dg_dgc n 0) w
  rwa [val_4 n h] at this
theorem val_6 (n : Nat) (h : n < 1000000) : (10 * (10 * (10 * (10 * (10 * (10 * 0 + dv (dgc n 5)) + dv (dgc n 4)) + dv (dgc n 3)) + dv (dgc n 2)) + dv (dgc n 1)) + dv (dgc n 0)) = (n : Int) := by
  simp only [dv_dgc]
  omega
theorem numb_6 (n : Nat) (h : n < 1000000) (w : World) :
    Calls Try.prog 37 #[.string ⟨⟨[dgc n 5, dgc n 4, dgc n 3, dgc n 2, dgc n 1, dgc n 0]⟩⟩] w fun e w' => e = .returned (.int .i64 n) ∧ w' = w := by
  have := number_6 (dgc n 5) (dgc n 4) (dgc n 3) (dgc n 2) (dgc n 1) (dgc n 0) (dg_dgc n 5) (dg_dgc n 4) (dg_dgc n 3) (dg_dgc n 2) (dg_dgc n 1) (dg_dgc n 0) w
  rwa [val_6 n h] at this
theorem tx_list (y m d h i s u : Nat) : tx y m d h i s u = [dgc y 3, dgc y 2, dgc y 1, dgc y 0, 45, dgc m 1, dgc m 0, 45, dgc d 1, dgc d 0, 84, dgc h 1, dgc h 0, 58, dgc i 1, dgc i 0, 58, dgc s 1, dgc s 0, 46, dgc u 5, dgc u 4, dgc u 3, dgc u 2, dgc u 1, dgc u 0, 90] := rfl
theorem ext_y (y m d h i s u : Nat) : (⟨⟨[dgc y 3, dgc y 2, dgc y 1, dgc y 0, 45, dgc m 1, dgc m 0, 45, dgc d 1, dgc d 0, 84, dgc h 1, dgc h 0, 58, dgc i 1, dgc i 0, 58, dgc s 1, dgc s 0, 46, dgc u 5, dgc u 4, dgc u 3, dgc u 2, dgc u 1, dgc u 0, 90]⟩⟩ : ByteArray).extract 0 4 = ⟨⟨[dgc y 3, dgc y 2, dgc y 1, dgc y 0]⟩⟩ := by rfl
theorem ext_m (y m d h i s u : Nat) : (⟨⟨[dgc y 3, dgc y 2, dgc y 1, dgc y 0, 45, dgc m 1, dgc m 0, 45, dgc d 1, dgc d 0, 84, dgc h 1, dgc h 0, 58, dgc i 1, dgc i 0, 58, dgc s 1, dgc s 0, 46, dgc u 5, dgc u 4, dgc u 3, dgc u 2, dgc u 1, dgc u 0, 90]⟩⟩ : ByteArray).extract 5 7 = ⟨⟨[dgc m 1, dgc m 0]⟩⟩ := by rfl
theorem ext_d (y m d h i s u : Nat) : (⟨⟨[dgc y 3, dgc y 2, dgc y 1, dgc y 0, 45, dgc m 1, dgc m 0, 45, dgc d 1, dgc d 0, 84, dgc h 1, dgc h 0, 58, dgc i 1, dgc i 0, 58, dgc s 1, dgc s 0, 46, dgc u 5, dgc u 4, dgc u 3, dgc u 2, dgc u 1, dgc u 0, 90]⟩⟩ : ByteArray).extract 8 10 = ⟨⟨[dgc d 1, dgc d 0]⟩⟩ := by rfl
theorem ext_h (y m d h i s u : Nat) : (⟨⟨[dgc y 3, dgc y 2, dgc y 1, dgc y 0, 45, dgc m 1, dgc m 0, 45, dgc d 1, dgc d 0, 84, dgc h 1, dgc h 0, 58, dgc i 1, dgc i 0, 58, dgc s 1, dgc s 0, 46, dgc u 5, dgc u 4, dgc u 3, dgc u 2, dgc u 1, dgc u 0, 90]⟩⟩ : ByteArray).extract 11 13 = ⟨⟨[dgc h 1, dgc h 0]⟩⟩ := by rfl
theorem ext_i (y m d h i s u : Nat) : (⟨⟨[dgc y 3, dgc y 2, dgc y 1, dgc y 0, 45, dgc m 1, dgc m 0, 45, dgc d 1, dgc d 0, 84, dgc h 1, dgc h 0, 58, dgc i 1, dgc i 0, 58, dgc s 1, dgc s 0, 46, dgc u 5, dgc u 4, dgc u 3, dgc u 2, dgc u 1, dgc u 0, 90]⟩⟩ : ByteArray).extract 14 16 = ⟨⟨[dgc i 1, dgc i 0]⟩⟩ := by rfl
theorem ext_s (y m d h i s u : Nat) : (⟨⟨[dgc y 3, dgc y 2, dgc y 1, dgc y 0, 45, dgc m 1, dgc m 0, 45, dgc d 1, dgc d 0, 84, dgc h 1, dgc h 0, 58, dgc i 1, dgc i 0, 58, dgc s 1, dgc s 0, 46, dgc u 5, dgc u 4, dgc u 3, dgc u 2, dgc u 1, dgc u 0, 90]⟩⟩ : ByteArray).extract 17 19 = ⟨⟨[dgc s 1, dgc s 0]⟩⟩ := by rfl
theorem ext_u (y m d h i s u : Nat) : (⟨⟨[dgc y 3, dgc y 2, dgc y 1, dgc y 0, 45, dgc m 1, dgc m 0, 45, dgc d 1, dgc d 0, 84, dgc h 1, dgc h 0, 58, dgc i 1, dgc i 0, 58, dgc s 1, dgc s 0, 46, dgc u 5, dgc u 4, dgc u 3, dgc u 2, dgc u 1, dgc u 0, 90]⟩⟩ : ByteArray).extract 20 26 = ⟨⟨[dgc u 5, dgc u 4, dgc u 3, dgc u 2, dgc u 1, dgc u 0]⟩⟩ := by rfl
set_option maxRecDepth 100000 in
set_option maxHeartbeats 4000000 in
theorem parse_any {w : World} {a : Option Addr} {n c : Nat} {L : List Int} (hr : Ro w a n c L) (hv : VT L) (t : Int) (h0 : 0 ≤ t) (h9 : t ≤ 9007199254740992) :
    Calls Try.prog 23 #[.slice a n c, .string ⟨⟨fm L t⟩⟩] w fun e w' => e = .returned (.tuple #[.int .i64 t, .int .i64 0]) ∧ Below w.heap.size w w' := by
  obtain ⟨y, m, d, h, i, s, u, hc, hf, y0, y9, m9, d9, h9', i9, s9, u9⟩ := civ_form hv t h0 h9
  have V := Lib.hid (valid_yes hr hv)
  have BK := Lib.hid fun wx (hb : Below w.heap.size w wx) => back_any (hr.below hb) hv t h0 h9
  rw [hc] at BK
  rw [hf, tx_list]
  have LY := Lib.hid (layout_yes (dgc y 3) (dgc y 2) (dgc y 1) (dgc y 0) (dgc m 1) (dgc m 0) (dgc d 1) (dgc d 0) (dgc h 1) (dgc h 0) (dgc i 1) (dgc i 0) (dgc s 1) (dgc s 0) (dgc u 5) (dgc u 4) (dgc u 3) (dgc u 2) (dgc u 1) (dgc u 0) (dg_dgc y 3) (dg_dgc y 2) (dg_dgc y 1) (dg_dgc y 0) (dg_dgc m 1) (dg_dgc m 0) (dg_dgc d 1) (dg_dgc d 0) (dg_dgc h 1) (dg_dgc h 0) (dg_dgc i 1) (dg_dgc i 0) (dg_dgc s 1) (dg_dgc s 0) (dg_dgc u 5) (dg_dgc u 4) (dg_dgc u 3) (dg_dgc u 2) (dg_dgc u 1) (dg_dgc u 0) w)
  have Xy := ext_y y m d h i s u
  have Cy := Lib.hid fun w => numb_4 y (by omega) w
  have Xm := ext_m y m d h i s u
  have Cm := Lib.hid fun w => numb_2 m (by omega) w
  have Xd := ext_d y m d h i s u
  have Cd := Lib.hid fun w => numb_2 d (by omega) w
  have Xh := ext_h y m d h i s u
  have Ch := Lib.hid fun w => numb_2 h (by omega) w
  have Xi := ext_i y m d h i s u
  have Ci := Lib.hid fun w => numb_2 i (by omega) w
  have Xs := ext_s y m d h i s u
  have Cs := Lib.hid fun w => numb_2 s (by omega) w
  have Xu := ext_u y m d h i s u
  have Cu := Lib.hid fun w => numb_6 u (by omega) w
  have SZ : (⟨⟨[dgc y 3, dgc y 2, dgc y 1, dgc y 0, 45, dgc m 1, dgc m 0, 45, dgc d 1, dgc d 0, 84, dgc h 1, dgc h 0, 58, dgc i 1, dgc i 0, 58, dgc s 1, dgc s 0, 46, dgc u 5, dgc u 4, dgc u 3, dgc u 2, dgc u 1, dgc u 0, 90]⟩⟩ : ByteArray).size = 27 := rfl
  generalize hGy : (⟨⟨[dgc y 3, dgc y 2, dgc y 1, dgc y 0]⟩⟩ : ByteArray) = gy at *
  replace hGy := Lib.hid hGy
  generalize hGm : (⟨⟨[dgc m 1, dgc m 0]⟩⟩ : ByteArray) = gm at *
  replace hGm := Lib.hid hGm
  generalize hGd : (⟨⟨[dgc d 1, dgc d 0]⟩⟩ : ByteArray) = gd at *
  replace hGd := Lib.hid hGd
  generalize hGh : (⟨⟨[dgc h 1, dgc h 0]⟩⟩ : ByteArray) = gh at *
  replace hGh := Lib.hid hGh
  generalize hGi : (⟨⟨[dgc i 1, dgc i 0]⟩⟩ : ByteArray) = gi at *
  replace hGi := Lib.hid hGi
  generalize hGs : (⟨⟨[dgc s 1, dgc s 0]⟩⟩ : ByteArray) = gs at *
  replace hGs := Lib.hid hGs
  generalize hGu : (⟨⟨[dgc u 5, dgc u 4, dgc u 3, dgc u 2, dgc u 1, dgc u 0]⟩⟩ : ByteArray) = gu at *
  replace hGu := Lib.hid hGu
  generalize hT : (⟨⟨[dgc y 3, dgc y 2, dgc y 1, dgc y 0, 45, dgc m 1, dgc m 0, 45, dgc d 1, dgc d 0, 84, dgc h 1, dgc h 0, 58, dgc i 1, dgc i 0, 58, dgc s 1, dgc s 0, 46, dgc u 5, dgc u 4, dgc u 3, dgc u 2, dgc u 1, dgc u 0, 90]⟩⟩ : ByteArray) = T at *
  replace hT := Lib.hid hT
  clear hc hr hv hf
  have BW := Lib.hid (Below.refl w.heap.size w)
  go_enter Try.func23, Try.ntmps23
  go_wp2_with fail
  with_reducible refine V.out.mono ?_
  rintro e w' ⟨rfl, hw⟩
  subst hw
  go_wp2_with fail
  with_reducible refine LY.out.mono ?_
  rintro e w1 ⟨rfl, q, rfl⟩
  have B1 := Lib.hid (Buf.below_drewN BW.out q)
  generalize w'.drewN q = w1 at *
  go_upto_region 5 with fail
  have BK1 := Lib.hid fun wx (hb : Below w1.heap.size w1 wx) => BK.out wx (Buf.then_ B1.out hb)
  refine Buf.region_calm w1 (by kernel_rfl) (by kernel_rfl) (Below.refl _ _) ?_
  repeat (go_big_quiet_step ((intro hC; first
    | (go_at_call 37; with_reducible exact Buf.calm hC ((Cy.out _).mono fun _ _ h => ⟨h.1, by rw [h.2]; exact Below.refl _ _⟩))
    | (go_at_call 37; with_reducible exact Buf.calm hC ((Cm.out _).mono fun _ _ h => ⟨h.1, by rw [h.2]; exact Below.refl _ _⟩))
    | (go_at_call 37; with_reducible exact Buf.calm hC ((Cd.out _).mono fun _ _ h => ⟨h.1, by rw [h.2]; exact Below.refl _ _⟩))
    | (go_at_call 37; with_reducible exact Buf.calm hC ((Ch.out _).mono fun _ _ h => ⟨h.1, by rw [h.2]; exact Below.refl _ _⟩))
    | (go_at_call 37; with_reducible exact Buf.calm hC ((Ci.out _).mono fun _ _ h => ⟨h.1, by rw [h.2]; exact Below.refl _ _⟩))
    | (go_at_call 37; with_reducible exact Buf.calm hC ((Cs.out _).mono fun _ _ h => ⟨h.1, by rw [h.2]; exact Below.refl _ _⟩))
    | (go_at_call 37; with_reducible exact Buf.calm hC ((Cu.out _).mono fun _ _ h => ⟨h.1, by rw [h.2]; exact Below.refl _ _⟩))
    | (go_at_call 22; with_reducible exact Buf.calm hC (BK1.out _ hC))
    | rfl
    | (rw [if_neg (by omega)]; exact ⟨rfl, rfl⟩))))
  refine wpQuiet_nil ?_
  intro w2 b2
  go_wp2_with fail
  go_ret2
  exact ⟨rfl, Buf.then_ B1.out b2⟩
end Utc
end Go.Proofs.Ytnoggdhljijhpaa
