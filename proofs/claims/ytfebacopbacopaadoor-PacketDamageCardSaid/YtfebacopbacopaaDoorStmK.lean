/- wellFormed, unpack. -/
import Derived.Test.YtfebacopbacopaaDoorStmJ
set_option linter.unusedVariables false
set_option linter.unusedSimpArgs false
namespace Go.Proofs.YtfebacopbacopaaDoor
open Go.RowKit Dice Ri Rk
namespace St
/-- Words that are well formed. -/
structure WF (A : List Int) (F : Nat) : Prop where
  len : A.length = 16 * F
  f1 : 1 ≤ F
  f8 : F ≤ 8
  a32 : A32 A
  head : ∀ q, q < F → Ma.pr (A.getD (16 * q) 0) 15 = 0
  h1 : Ma.pr (A.getD 0 0) 14 = 0
  h2 : Ma.pr (A.getD 0 0) 13 = 0
theorem A32.drop {A : List Int} (h : A32 A) (k : Nat) : A32 (A.drop k) := fun x hx => h x (List.mem_of_mem_drop hx)
theorem ext_drop (l : List UInt8) (k n : Nat) (hn : n = l.length) : (ByteArray.mk ⟨l⟩).extract k n = ByteArray.mk ⟨l.drop k⟩ := by
  subst hn
  apply ByteArray.ext
  simp [ByteArray.data_extract]
  exact List.take_of_length_le (by rw [List.length_drop]; omega)
set_option maxHeartbeats 4000000 in
set_option maxRecDepth 100000 in
theorem wellFormed_any (A : List Int) (F : Nat) (h : WF A F) (w : World) :
    Calls Tryd.prog 70 #[.string ⟨⟨bys A⟩⟩] w fun e w' => e = .returned (.bool true) ∧ Below w.heap.size w w' := by
  have hlen : (bys A).length = 64 * F := by rw [bys_length, h.len]; omega
  have f1 := h.f1
  have f8 := h.f8
  have CO := Lib.hid fun q (hq : q < F) w' => codesOf_any (A.drop (16 * q)) (h.a32.drop _) (by rw [List.length_drop, h.len]; omega) (by rw [List.length_drop, h.len]; omega) w'
  have EX : Hid (∀ q, q < F → (ByteArray.mk ⟨bys A⟩).extract (64 * q) (bys A).length = ByteArray.mk ⟨bys (A.drop (16 * q))⟩) := Lib.hid fun q hq => by
    rw [ext_drop _ _ _ rfl, show 64 * q = 4 * (16 * q) by omega, bys_drop]
  have PR := Lib.hid fun q (hq : q < F) => h.head q hq
  have P1 := Lib.hid h.h1
  have P2 := Lib.hid h.h2
  obtain ⟨l, hl⟩ : ∃ l, l = bys A := ⟨_, rfl⟩
  rw [← hl] at hlen EX ⊢
  have hsz : (ByteArray.mk ⟨l⟩).size = l.length := rfl
  have hli : (l.length : Int) = 64 * (F : Int) := by omega
  have hemp : ((l.length : Int) == 0) = false := by rw [beq_eq_false_iff_ne]; omega
  have hmod : (l.length : Int) % 64 = 0 := by omega
  have hle : (l.length : Int) ≤ 512 := by omega
  have hge : (64 : Int) ≤ l.length := by omega
  replace hl := Lib.hid hl
  replace hli := Lib.hid hli
  replace hlen := Lib.hid hlen
  clear h
  go_enter Tryd.func70, Tryd.ntmps70
  go_wp2_with fail
  replace hmod := Lib.hid hmod
  go_loopw [3] (fun i wr => ∃ q : Nat, q ≤ F ∧ i = .int .i64 ((64 * q : Nat) : Int) ∧ Hid (Below w.heap.size w wr)) (fun i _ => (64 * F + 64) - (intOf i).toNat)
  case atStart => exact ⟨0, by omega, rfl, Lib.hid (Below.refl _ _)⟩
  case round =>
    obtain ⟨q, hq, rfl, HB⟩ := hrel
    obtain ⟨p, hp⟩ : ∃ p, p = 64 * q := ⟨_, rfl⟩
    rw [← hp]
    by_cases hlt : q < F
    · have pl : (p : Int) < l.length := by have := hlen.out; omega
      have pl2 : p < l.length := by have := hlen.out; omega
      have C := CO.out q hlt
      have E := EX.out q hlt
      rw [← hp] at E
      have a0 : (A.drop (16 * q)).getD 0 0 = A.getD (16 * q) 0 := by simp [List.getD]
      have p0 := PR.out q hlt
      rw [← a0] at p0
      have p12 : q = 0 → Ma.pr ((A.drop (16 * q)).getD 0 0) 14 = 0 ∧ Ma.pr ((A.drop (16 * q)).getD 0 0) 13 = 0 := fun e => by
        subst e
        exact ⟨P1.out, P2.out⟩
      generalize (A.drop (16 * q)).getD 0 0 = x at *
      replace C := Lib.hid C
      replace p0 := Lib.hid p0
      replace p12 := Lib.hid p12
      replace hp := Lib.hid hp
      go_wp2_with fail
      with_reducible refine (C.out _).mono ?_
      rintro e w3 ⟨⟨b, c, rfl, R, _⟩, hb⟩
      have B3 := Lib.hid (Buf.then_ HB.out hb)
      obtain ⟨g, o, rfl⟩ := R.form (by omega)
      have c0 := R.cell 0 (by omega)
      have c1 := R.cell 1 (by omega)
      have c2 := R.cell 2 (by omega)
      rw [prs_get _ _ _ (by omega)] at c0 c1 c2
      simp only [Nat.sub_zero, Nat.add_zero, Nat.reduceSub] at c0 c1 c2
      rw [p0.out] at c0
      clear hb R C
      rcases Nat.eq_zero_or_pos q with h0 | h0
      · obtain ⟨p1, p2⟩ := p12.out h0
        rw [p1] at c1
        rw [p2] at c2
        have hp0 : ((p : Int) == 0) = true := by rw [beq_iff_eq]; have := hp.out; omega
        have p512 : (p : Int) ≤ 512 := by omega
        clear p1 p2
        go_wp2_with fail
        first
        | exact ⟨⟨q + 1, by omega, by have := hp.out; go_num, B3⟩, by simp [intOf]; have := hp.out; omega⟩
        | (go_roundw
           case rel => exact ⟨q + 1, by omega, by have := hp.out; go_num, B3⟩
           case measure => simp [intOf]; have := hp.out; omega)
      · have hp0 : ((p : Int) == 0) = false := by rw [beq_eq_false_iff_ne]; have := hp.out; omega
        have p512 : (p : Int) ≤ 512 := by omega
        clear c1 c2
        go_wp2_with fail
        first
        | exact ⟨⟨q + 1, by omega, by have := hp.out; go_num, B3⟩, by simp [intOf]; have := hp.out; omega⟩
        | (go_roundw
           case rel => exact ⟨q + 1, by omega, by have := hp.out; go_num, B3⟩
           case measure => simp [intOf]; have := hp.out; omega)
    · obtain rfl : F = q := by omega
      have hnk : ¬ ((p : Int) < l.length) := by have := hlen.out; omega
      go_wp2_with fail
      go_ret
      exact ⟨rfl, HB.out⟩
end St
end Go.Proofs.YtfebacopbacopaaDoor
