/- The walk of PacketDamage. -/
import Derived.Test.YtfebacopbacopaaDoorPktJ
import Derived.Deep.DeepCutAuto
set_option linter.unusedVariables false
set_option linter.unusedSimpArgs false
namespace Go.Proofs.YtfebacopbacopaaDoor
open Go.RowKit Dice
namespace Laws
open Pkt
set_option maxHeartbeats 8000000 in
set_option maxRecDepth 100000 in
theorem packetDamage_walk (a0 : Option Addr) (len0 cap0 : Nat) (z0 : List Int) (a1 a2 : Int) (w : World) (hm : Sc.Mx w) (w0 : Buf.IsRow .i64 w a0 len0 cap0 z0) (w1 : (Lit.int .u16 a1).wf = true) (w2 : (Lit.int .u32 a2).wf = true) :
    Calls Tryd.prog 4 #[.slice a0 len0 cap0, .int .u16 a1, .int .u32 a2] w fun e w' => e = .returned (.bool true) ∧ Below w.heap.size w w' := by
  have b1 : 0 ≤ a1 ∧ a1 ≤ 65535 := by have := w1; simp [Lit.wf, IntKind.min, IntKind.max, IntKind.bits, IntKind.signed] at this; omega
  have b2 : 0 ≤ a2 ∧ a2 ≤ 4294967295 := by have := w2; simp [Lit.wf, IntKind.min, IntKind.max, IntKind.bits, IntKind.signed] at this; omega
  clear w1 w2
  obtain ⟨m, rfl⟩ : ∃ m : Nat, a2 = (m : Int) := ⟨a2.toNat, by omega⟩
  replace hm := Lib.hid hm
  by_cases hs : len0 ≤ 500
  · have hd : decide ((len0 : Int) ≤ 500) = true := by simp; omega
    go_enter Tryd.func4, Tryd.ntmps4
    go_upto_region 4 with (first | (go_at_call 7; refine (light_any _ _ _ _).mono ?_; rintro e w1 ⟨rfl, hw⟩; replace hw := hw.symm; subst hw; rw [hd]) | (go_at_call 9; refine (roll_any a0 len0 cap0 z0 _ w0 hs).mono ?_; rintro e w2 ⟨rfl, hdi⟩))
    go_wp2_with fail
    refine (packet_any hdi).mono ?_
    rintro e w3 ⟨⟨s0, s1, s2, s3, ru, se, st, nu, de, cl, er, L, a, c, rfl, G, hR⟩, hl⟩
    have D3 := Lib.hid hl
    have LG := lng_pk G
    have SY := (says_pk G).len
    have hck := pk_chk (flds cl ru se st nu de er L.length (Sc.j4 s0 s1 s2 s3).length (St.fo (St.wds (St.df L)).length)) (Sc.j4 s0 s1 s2 s3) (St.enc L)
    have EN := encode_any G hR
    have DE0 := fun w' (h : Sc.Mx w') => decode_ok (w := w') G h
    generalize (pk (flds cl ru se st nu de er L.length (Sc.j4 s0 s1 s2 s3).length (St.fo (St.wds (St.df L)).length)) (Sc.j4 s0 s1 s2 s3) (St.enc L)) = l at *
    generalize (Sc.j4 s0 s1 s2 s3).length = tl at *
    generalize St.fo (St.wds (St.df L)).length = fr at *
    have t8 := LG.t8
    have f1 := LG.f1
    have t15 := LG.t15
    have f8 := LG.f8
    have h107 : 107 ≤ l.length ∧ l.length ≤ 1000 := by omega
    have hlen : Hid (l.length = 31 + tl + fr * 64 + 4) := Lib.hid (by omega)
    replace EN := Lib.hid EN
    replace DE0 := Lib.hid DE0
    replace LG := Lib.hid LG
    replace hck := Lib.hid hck
    clear hl hdi SY G hR t8 f1 t15 f8
    go_wp2_with fail
    with_reducible refine EN.out.mono ?_
    rintro e w4 ⟨rfl, hb⟩
    replace D3 := Lib.hid (D3.out.below hb)
    clear hb EN
    obtain ⟨k, hk, k1, k2⟩ : ∃ k : Nat, (k : Int) = 248 + a1 % (8 * (l.length : Int) - 248 - 31) ∧ 248 ≤ k ∧ k + 32 ≤ 8 * l.length := by
      have h1 := Int.emod_nonneg a1 (show (8 * (l.length : Int) - 248 - 31) ≠ 0 by omega)
      have h2 := Int.emod_lt_of_pos a1 (show 0 < (8 * (l.length : Int) - 248 - 31) by omega)
      exact ⟨(248 + a1 % (8 * (l.length : Int) - 248 - 31)).toNat, by omega, by omega, by omega⟩
    have hkb : 0 ≤ 248 + a1 % (8 * (l.length : Int) - 248 - 31) ∧ 248 + a1 % (8 * (l.length : Int) - 248 - 31) ≤ 8000 := by omega
    replace hk := Lib.hid hk
    have hy1 : Crc.flipS ⟨⟨l⟩⟩ k m 32 = ⟨⟨Crc.flips l k m 32⟩⟩ := rfl
    have FL : Hid (∀ w', Calls Tryd.prog 15 #[.string ⟨⟨l⟩⟩, .int .i64 (k : Int), .int .i64 32, .int .i64 (m : Int)] w' fun e w'' => e = .returned (.tuple #[.string (Crc.flipS ⟨⟨l⟩⟩ k m 32), .int .i64 0]) ∧ Below w'.heap.size w' w'') := Lib.hid fun w' => Ref06.flip_ok ⟨⟨l⟩⟩ k 32 m w' (by show l.length ≤ 1000000; omega) (by omega) (by omega) (by omega) (by show k + 32 ≤ 8 * l.length; omega)
    rw [hy1] at FL
    have LY := Lib.hid (LG.out.of_take (flips_take l k m k1 32) (by rw [Crc.flips_length]; omega) (by rw [Crc.flips_length]; omega))
    have CY := Lib.hid (Laws.chk_flip l k m 32 (by omega) hck.out (by omega) (by omega) (by omega))
    have YL := Lib.hid (Crc.flips_length l k m 32)
    have Y0 := Lib.hid (fun h : m = 0 => (by rw [h]; exact flips_none l k 32 : Crc.flips l k m 32 = l))
    generalize Crc.flips l k m 32 = y at *
    clear hy1
    go_upto_region 8 with fail
    rw [← hk.out]
    go_wp2_with fail
    with_reducible refine (FL.out _).mono ?_
    rintro e w5 ⟨rfl, hb⟩
    replace D3 := Lib.hid (D3.out.below hb)
    clear hb FL
    by_cases hm0 : m = 0
    · have hy := Y0.out hm0
      subst hm0
      rw [hy]
      go_wp2_with fail
      with_reducible refine (DE0.out _ (hm.out.next D3.out.di.bel)).mono ?_
      rintro e wd ⟨⟨sa, sc, rfl, _⟩, hb⟩
      replace D3 := Lib.hid (D3.out.below hb)
      clear hb Y0 hy CY YL LY DE0
      obtain ⟨wb, hwb⟩ : ∃ wb, wb = wd.alloc (.cells #[.string ⟨⟨s0⟩⟩, .string ⟨⟨s1⟩⟩, .string ⟨⟨s2⟩⟩, .string ⟨⟨s3⟩⟩, .int .i64 (ru : Int), .int .i64 (se : Int), .int .i64 (st : Int), .int .i64 (nu : Int), .int .i64 (de : Int), .int .i64 (cl : Int), .int .i64 (er : Int), .slice sa L.length sc] 34) := ⟨_, rfl⟩
      have hb2 : Below wd.heap.size wd wb := by rw [hwb]; exact new_block _
      replace D3 := Lib.hid (D3.out.below hb2)
      go_upto_region 10 with fail
      rw [← hwb]
      clear hwb hb2
      go_wp2_with fail
      refine (next_any ((l.length : Int) - 31) D3.out.di (by omega) (by omega)).mono ?_
      rintro e we ⟨⟨i, rfl, i0, i1⟩, hl2⟩
      replace D3 := Lib.hid (D3.out.trans hl2)
      clear hl2
      obtain ⟨ct, hct⟩ : ∃ ct : Nat, (ct : Int) = 31 + i := ⟨(31 + i).toNat, by omega⟩
      have c1 : 31 ≤ ct := by omega
      have c2 : ct < l.length := by omega
      have c3 : (0 : Int) ≤ (ct : Int) ∧ (ct : Int) ≤ (l.length : Int) := by omega
      have DT := Lib.hid fun w' => decode_trunc (w := w') (LG.out.cut ct c1 (by omega)) (by rw [List.length_take]; have := hlen.out; omega)
      have ex := take_extract l ct
      replace hct := Lib.hid hct
      generalize l.take ct = lt at *
      go_upto_region 11 with fail
      rw [← hct.out]
      go_wp2_with fail
      with_reducible refine (DT.out _).mono ?_
      rintro e wf ⟨rfl, hb⟩
      replace D3 := Lib.hid (D3.out.below hb)
      clear hb ex DT
      obtain ⟨wg, hwg⟩ : ∃ wg, wg = wf.alloc (.cells #[.string ⟨#[]⟩, .string ⟨#[]⟩, .string ⟨#[]⟩, .string ⟨#[]⟩, .int .i64 0, .int .i64 0, .int .i64 0, .int .i64 0, .int .i64 0, .int .i64 0, .int .i64 0, .slice none 0 0] 34) := ⟨_, rfl⟩
      have hb2 : Below wf.heap.size wf wg := by rw [hwg]; exact new_block _
      replace D3 := Lib.hid (D3.out.below hb2)
      go_upto_region 12 with fail
      rw [← hwg]
      clear hwg hb2
      go_wp2_with fail
      refine (next_any 31 D3.out.di (by omega) (by omega)).mono ?_
      rintro e wh ⟨⟨j, rfl, j0, j1⟩, hl2⟩
      replace D3 := Lib.hid (D3.out.trans hl2)
      clear hl2
      obtain ⟨jt, rfl⟩ : ∃ jt : Nat, j = (jt : Int) := ⟨j.toNat, by omega⟩
      have c4 : (jt : Int) ≤ (l.length : Int) := by omega
      have DS := Lib.hid fun w' => decode_short (w := w') (l := l.take jt) (by rw [List.length_take]; omega)
      have ex := take_extract l jt
      generalize l.take jt = ls at *
      go_wp2_with fail
      with_reducible refine (DS.out _).mono ?_
      rintro e wk ⟨rfl, hb⟩
      replace D3 := Lib.hid (D3.out.below hb)
      clear hb ex DS
      have WZ := Lib.hid D3.out.di.bel
      go_wp2_with (go_at_call 8; (with_reducible refine (Pkt.sane_any (hm.out.next (WZ.out.trans ((new_block _).mono (WZ.out.size))))).mono ?_); rintro e wz ⟨rfl, hbz⟩)
      go_ret
      exact ⟨rfl, WZ.out.trans ((Buf.then_ (new_block _) hbz).mono WZ.out.size)⟩
    · have hm0' : ((m : Int) == 0) = false := by rw [beq_eq_false_iff_ne]; omega
      have CF : Crc.chk y = false := by rw [CY.out, beq_eq_false_iff_ne]; exact hm0
      have DB := Lib.hid fun w' => decode_sum (w := w') LY.out (by rw [YL.out]; exact hlen.out) CF
      clear Y0 CY CF DE0
      go_wp2_with fail
      with_reducible refine (DB.out _).mono ?_
      rintro e wd ⟨rfl, hb⟩
      replace D3 := Lib.hid (D3.out.below hb)
      clear hb YL LY DB
      obtain ⟨wb, hwb⟩ : ∃ wb, wb = wd.alloc (.cells #[.string ⟨#[]⟩, .string ⟨#[]⟩, .string ⟨#[]⟩, .string ⟨#[]⟩, .int .i64 0, .int .i64 0, .int .i64 0, .int .i64 0, .int .i64 0, .int .i64 0, .int .i64 0, .slice none 0 0] 34) := ⟨_, rfl⟩
      have hb2 : Below wd.heap.size wd wb := by rw [hwb]; exact new_block _
      replace D3 := Lib.hid (D3.out.below hb2)
      go_upto_region 10 with fail
      rw [← hwb]
      clear hwb hb2
      go_wp2_with fail
      refine (next_any ((l.length : Int) - 31) D3.out.di (by omega) (by omega)).mono ?_
      rintro e we ⟨⟨i, rfl, i0, i1⟩, hl2⟩
      replace D3 := Lib.hid (D3.out.trans hl2)
      clear hl2
      obtain ⟨ct, hct⟩ : ∃ ct : Nat, (ct : Int) = 31 + i := ⟨(31 + i).toNat, by omega⟩
      have c1 : 31 ≤ ct := by omega
      have c2 : ct < l.length := by omega
      have c3 : (0 : Int) ≤ (ct : Int) ∧ (ct : Int) ≤ (l.length : Int) := by omega
      have DT := Lib.hid fun w' => decode_trunc (w := w') (LG.out.cut ct c1 (by omega)) (by rw [List.length_take]; have := hlen.out; omega)
      have ex := take_extract l ct
      replace hct := Lib.hid hct
      generalize l.take ct = lt at *
      go_upto_region 11 with fail
      rw [← hct.out]
      go_wp2_with fail
      with_reducible refine (DT.out _).mono ?_
      rintro e wf ⟨rfl, hb⟩
      replace D3 := Lib.hid (D3.out.below hb)
      clear hb ex DT
      obtain ⟨wg, hwg⟩ : ∃ wg, wg = wf.alloc (.cells #[.string ⟨#[]⟩, .string ⟨#[]⟩, .string ⟨#[]⟩, .string ⟨#[]⟩, .int .i64 0, .int .i64 0, .int .i64 0, .int .i64 0, .int .i64 0, .int .i64 0, .int .i64 0, .slice none 0 0] 34) := ⟨_, rfl⟩
      have hb2 : Below wf.heap.size wf wg := by rw [hwg]; exact new_block _
      replace D3 := Lib.hid (D3.out.below hb2)
      go_upto_region 12 with fail
      rw [← hwg]
      clear hwg hb2
      go_wp2_with fail
      refine (next_any 31 D3.out.di (by omega) (by omega)).mono ?_
      rintro e wh ⟨⟨j, rfl, j0, j1⟩, hl2⟩
      replace D3 := Lib.hid (D3.out.trans hl2)
      clear hl2
      obtain ⟨jt, rfl⟩ : ∃ jt : Nat, j = (jt : Int) := ⟨j.toNat, by omega⟩
      have c4 : (jt : Int) ≤ (l.length : Int) := by omega
      have DS := Lib.hid fun w' => decode_short (w := w') (l := l.take jt) (by rw [List.length_take]; omega)
      have ex := take_extract l jt
      generalize l.take jt = ls at *
      go_wp2_with fail
      with_reducible refine (DS.out _).mono ?_
      rintro e wk ⟨rfl, hb⟩
      replace D3 := Lib.hid (D3.out.below hb)
      clear hb ex DS
      have WZ := Lib.hid D3.out.di.bel
      go_wp2_with (go_at_call 8; (with_reducible refine (Pkt.sane_any (hm.out.next (WZ.out.trans ((new_block _).mono (WZ.out.size))))).mono ?_); rintro e wz ⟨rfl, hbz⟩)
      go_ret
      exact ⟨rfl, WZ.out.trans ((Buf.then_ (new_block _) hbz).mono WZ.out.size)⟩
  · have hd : decide ((len0 : Int) ≤ 500) = false := by simp; omega
    have SN := Lib.hid (Pkt.sane_any hm.out)
    go_enter Tryd.func4, Tryd.ntmps4
    go_wp2_with (first | (go_at_call 7; refine (light_any _ _ _ _).mono ?_; rintro e w1 ⟨rfl, hw⟩; replace hw := hw.symm; subst hw; rw [hd]) | (go_at_call 8; with_reducible refine SN.out.mono ?_; rintro e w2 ⟨rfl, hc⟩))
    go_ret
    exact ⟨rfl, hc⟩
end Laws
end Go.Proofs.YtfebacopbacopaaDoor
