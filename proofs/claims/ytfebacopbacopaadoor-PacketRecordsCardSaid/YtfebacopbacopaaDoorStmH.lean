/- frame. -/
import Derived.Test.YtfebacopbacopaaDoorStmG
set_option linter.unusedVariables false
set_option linter.unusedSimpArgs false
namespace Go.Proofs.YtfebacopbacopaaDoor
open Go.RowKit Dice Ri Rk Go.Shelf
namespace St
/-- Words that can be read. -/
structure RoW (w : World) (a : Option Addr) (n c : Nat) (l : List (Nat × Int)) : Prop where
  len : n = l.length
  nc : n ≤ c
  at_ : 0 < n → ∃ g o, a = some ⟨g, o, none⟩ ∧ g < w.heap.size ∧ ∀ (j : Nat) (p : Nat × Int), l[j]? = some p → w.cell? ⟨g, o + j * 2, none⟩ = some (.int .i64 (p.1 : Nat)) ∧ w.cell? ⟨g, o + j * 2 + 1, none⟩ = some (.int .i64 p.2)
theorem RoW.below {w w' : World} {a : Option Addr} {n c : Nat} {l : List (Nat × Int)} (h : RoW w a n c l) (hb : Below w.heap.size w w') : RoW w' a n c l :=
  ⟨h.len, h.nc, fun h0 => by
    obtain ⟨g, o, e, hg, hc⟩ := h.at_ h0
    exact ⟨g, o, e, Nat.lt_of_lt_of_le hg hb.size, fun j p hp => ⟨(World.cell?_of_block (a := ⟨g, _, none⟩) (hb.block g hg)).trans (hc j p hp).1, (World.cell?_of_block (a := ⟨g, _, none⟩) (hb.block g hg)).trans (hc j p hp).2⟩⟩⟩
theorem RoW.take {w : World} {a : Option Addr} {n c : Nat} {l : List (Nat × Int)} (h : RoW w a n c l) (k : Nat) (hk : k ≤ n) : RoW w a k c (l.take k) :=
  ⟨by rw [List.length_take, ← h.len]; omega, by have := h.nc; omega, fun h0 => by
    obtain ⟨g, o, e, hg, hc⟩ := h.at_ (by omega)
    refine ⟨g, o, e, hg, fun j p hp => hc j p ?_⟩
    rw [List.getElem?_take] at hp
    split at hp
    · exact hp
    · cases hp⟩
theorem RoW.form {w : World} {a : Option Addr} {n c : Nat} {l : List (Nat × Int)} (h : RoW w a n c l) (h0 : 0 < n) : ∃ g o, a = some ⟨g, o, none⟩ := by
  obtain ⟨g, o, e, _⟩ := h.at_ h0
  exact ⟨g, o, e⟩
theorem RoW.cell {w : World} {g o : Nat} {n c : Nat} {l : List (Nat × Int)} (h : RoW w (some ⟨g, o, none⟩) n c l) (k : Nat) (hk : k < n) : w.cell? ⟨g, o + k * 2, none⟩ = some (.int .i64 ((l.getD k (0, 0)).1 : Nat)) ∧ w.cell? ⟨g, o + k * 2 + 1, none⟩ = some (.int .i64 (l.getD k (0, 0)).2) := by
  obtain ⟨g', o', e, hg, hc⟩ := h.at_ (by omega)
  injection e with e
  injection e with e1 e2
  subst e1 e2
  have hl := h.len
  refine hc k _ ?_
  rw [List.getD_eq_getElem?_getD, List.getElem?_eq_getElem (by omega)]; rfl
theorem bapp (x y : List UInt8) : (ByteArray.mk ⟨x⟩ ++ ByteArray.mk ⟨y⟩) = ByteArray.mk ⟨x ++ y⟩ := by
  apply ByteArray.ext
  rw [ByteArray.data_append]
  simp
theorem put4 (l : List UInt8) (v : Int) (w : World) (hl : l.length ≤ 100000) (h0 : 0 ≤ v) (h1 : v ≤ 4294967295) :
    Calls Tryd.prog 28 #[.string ⟨⟨l⟩⟩, .int .i64 v, .int .i64 4] w fun e w' => e = .returned (.tuple #[.string ⟨⟨l ++ be4 v⟩⟩, .int .i64 0]) ∧ Below w.heap.size w w' := by
  obtain ⟨n, rfl⟩ := Int.eq_ofNat_of_zero_le h0
  have hn : n < 2 ^ (8 * 4) := by have : (2 : Nat) ^ (8 * 4) = 4294967296 := by decide
                                  omega
  exact Bits.put_yes ⟨⟨l⟩⟩ n 4 w (by show l.length ≤ 1000000; omega) (by omega) (by omega) hn
set_option maxHeartbeats 8000000 in
set_option maxRecDepth 100000 in
theorem frame_any {w : World} {a : Option Addr} {n c : Nat} {l : List (Nat × Int)} (h : RoW w a n c l) (h15 : n ≤ 15) (hW : ∀ p ∈ l, WOk p) :
    Calls Tryd.prog 48 #[.slice a n c] w fun e w' => e = .returned (.string ⟨⟨bys (fw l)⟩⟩) ∧ Below w.heap.size w w' := by
  have hnc := h.nc
  have hl := Lib.hid h.len
  have H := Lib.hid h
  replace hW := Lib.hid hW
  clear h
  go_enter Tryd.func48, Tryd.ntmps48
  go_wp2_with fail
  go_loopw [3, 12] (fun v i wr => ∃ (k : Nat) (z : Int), k ≤ n ∧ i = .int .i64 (k : Int) ∧ v = .int .i64 z ∧ Hid (z = hdk l k) ∧ Hid (Below w.heap.size w wr)) (fun _ i _ => n - (intOf i).toNat)
  case atStart => exact ⟨0, 0, by omega, rfl, rfl, Lib.hid rfl, Lib.hid (Below.refl _ _)⟩
  case round =>
    obtain ⟨k, z, hk, rfl, rfl, HZ, HB⟩ := hrel
    by_cases hlk : k < n
    · have HN := Lib.hid (H.out.below HB.out)
      obtain ⟨g, o, rfl⟩ := HN.out.form (by omega)
      obtain ⟨c0, c1⟩ := HN.out.cell k hlk
      obtain ⟨q0, q1, q2⟩ := code_le hW.out k
      have hz := hdk_rng hW.out k
      rw [← HZ.out] at hz
      obtain ⟨z0, z1⟩ := hz
      have hs : hdk l (k + 1) = Ma.setPr z (14 - k) ((l.getD k (0, 0)).1 : Nat) := by rw [HZ.out]; rfl
      generalize l.getD k (0, 0) = p at *
      obtain ⟨pc, pv⟩ := p
      have ki : (k : Int) < n := by omega
      simp only at c0 c1 q0 q1 q2 hs
      have hs14 : ((15 : Int) - ((k : Int) + 1)).toNat = 14 - k := by omega
      have SP := fun w' => Bits.setPair_yes z ((k : Int) + 1) (pc : Nat) w' z0 z1 (by omega) (by omega) (by omega) (by omega)
      rw [hs14, ← hs] at SP
      replace SP := Lib.hid SP
      replace hs := Lib.hid hs
      replace hs14 := Lib.hid hs14
      clear HZ
      go_wp2_with fail
      with_reducible refine (SP.out _).mono ?_
      rintro e w2 ⟨rfl, hm⟩
      have B2 := Lib.hid (Buf.then_ HB.out (Buf.then_ (new_block _) (bel_drew hm)))
      clear hm c0 c1
      go_wp2_with fail
      first
      | exact ⟨⟨k + 1, _, by omega, by go_num, rfl, Lib.hid rfl, B2⟩, by simp [intOf]; omega⟩
      | (go_roundw
         case rel => exact ⟨k + 1, _, by omega, by go_num, rfl, Lib.hid rfl, B2⟩
         case measure => simp [intOf]; omega)
    · obtain rfl : n = k := by omega
      have hnk : ¬ ((n : Int) < n) := by omega
      have hz := hdk_rng hW.out n
      rw [← HZ.out] at hz
      obtain ⟨z0, z1⟩ := hz
      have P0 : Hid (∀ w', Calls Tryd.prog 28 #[.string ⟨#[]⟩, .int .i64 z, .int .i64 4] w' fun e w'' => e = .returned (.tuple #[.string ⟨⟨be4 z⟩⟩, .int .i64 0]) ∧ Below w'.heap.size w' w'') := Lib.hid fun w' => put4 [] z w' (by simp) z0 z1
      go_wp2_with fail
      with_reducible refine (P0.out _).mono ?_
      rintro e w2 ⟨rfl, hb⟩
      have B2 := Lib.hid (Buf.then_ HB.out hb)
      clear hb P0
      go_wp2_with fail
      go_loopw [6, 34] (fun s i wr => ∃ (k : Nat) (m : List UInt8), k ≤ n ∧ i = .int .i64 (k : Int) ∧ s = .string ⟨⟨m⟩⟩ ∧ Hid (m = be4 z ++ bys ((l.map (·.2)).take k)) ∧ Hid (Below w.heap.size w wr)) (fun _ i _ => n - (intOf i).toNat)
      case atStart => exact ⟨0, be4 z, by omega, rfl, rfl, Lib.hid (by simp [bys]), B2⟩
      case round =>
        clear HB B2
        obtain ⟨k, m, hk, rfl, rfl, HM, HB⟩ := hrel
        have hml : Hid (m.length = 4 + 4 * k) := Lib.hid (by rw [HM.out, List.length_append, be4_length, bys_length, List.length_take, List.length_map, ← hl.out]; omega)
        by_cases hlk : k < n
        · have HN := Lib.hid (H.out.below HB.out)
          obtain ⟨g, o, rfl⟩ := HN.out.form (by omega)
          obtain ⟨c0, c1⟩ := HN.out.cell k hlk
          obtain ⟨q0, q1, q2⟩ := code_le hW.out k
          have ht : (l.map (·.2)).take (k + 1) = (l.map (·.2)).take k ++ [(l.getD k (0, 0)).2] := by
            have hkl : k < (l.map (·.2)).length := by rw [List.length_map, ← hl.out]; exact hlk
            rw [List.take_succ_eq_append_getElem hkl, List.getElem_map, List.getD_eq_getElem?_getD, List.getElem?_eq_getElem (by rw [← hl.out]; exact hlk)]
            rfl
          generalize l.getD k (0, 0) = p at *
          obtain ⟨pc, pv⟩ := p
          have ki : (k : Int) < n := by omega
          simp only at c0 c1 q0 q1 q2 ht
          have P1 := Lib.hid fun w' => put4 m pv w' (by rw [hml.out]; omega) q1 q2
          have HM2 := Lib.hid (show m ++ be4 pv = be4 z ++ bys ((l.map (·.2)).take (k + 1)) by rw [HM.out, ht, bys_append, List.append_assoc]; simp [bys])
          replace ht := Lib.hid ht
          go_wp2_with fail
          with_reducible refine (P1.out _).mono ?_
          rintro e w3 ⟨rfl, hb⟩
          have B3 := Lib.hid (Buf.then_ HB.out (Buf.then_ (new_block _) hb))
          clear hb c0 c1
          go_wp2_with fail
          first
          | exact ⟨⟨k + 1, _, by omega, by go_num, rfl, HM2, B3⟩, by simp [intOf]; omega⟩
          | (go_roundw
             case rel => exact ⟨k + 1, _, by omega, by go_num, rfl, HM2, B3⟩
             case measure => simp [intOf]; omega)
        · obtain rfl : n = k := by omega
          have RP := Lib.hid fun w' => repeat_any (60 - 4 * n) w' (by omega)
          have e1 : (((60 - 4 * n : Nat) : Int)) = 64 - (m.length : Int) := by rw [hml.out]; omega
          have hfin : Hid (m ++ List.replicate (60 - 4 * n) 0 = bys (fw l)) := Lib.hid (by
            rw [fw_bys l (by rw [← hl.out]; exact h15), HM.out, ← hl.out, HZ.out, List.take_of_length_le (by rw [List.length_map, ← hl.out]; exact Nat.le_refl _)])
          rw [e1] at RP
          have hsz : (ByteArray.mk ⟨m⟩).size = m.length := rfl
          have hm64 : m.length ≤ 64 := by rw [hml.out]; omega
          obtain ⟨r, hr⟩ : ∃ r, r = List.replicate (60 - 4 * n) (0 : UInt8) := ⟨_, rfl⟩
          have hrl : r.length ≤ 60 := by rw [hr, List.length_replicate]; omega
          rw [← hr] at RP hfin
          have hsum : ¬ (9223372036854775807 < m.length + r.length) := by omega
          replace hr := Lib.hid hr
          replace e1 := Lib.hid e1
          go_wp2_with fail
          with_reducible refine (RP.out _).mono ?_
          rintro e w3 ⟨rfl, hb⟩
          have B3 := Lib.hid (Buf.then_ HB.out hb)
          clear hb
          go_wp2_with fail
          go_ret
          exact ⟨by rw [← hfin.out, ← bapp]; rfl, B3.out⟩
end St
end Go.Proofs.YtfebacopbacopaaDoor
