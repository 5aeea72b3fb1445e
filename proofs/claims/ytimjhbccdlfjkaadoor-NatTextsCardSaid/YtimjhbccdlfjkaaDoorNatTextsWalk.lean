/- The walk of NatTexts. -/
import Derived.Test.YtimjhbccdlfjkaaDoorNtxS
import Derived.Deep.DeepCutAuto
set_option linter.unusedVariables false
set_option linter.unusedSimpArgs false
namespace Go.Proofs.YtimjhbccdlfjkaaDoor
open Go.RowKit Dice Go.Lib
namespace Nt
theorem digits_le {L : List Int} (hL : Rg L) (h : L.length ≤ 8) : nDigits (vl L).toNat ≤ 1000 := by
  have h1 := vl_lt L hL
  have h2 := pow_le L.length 8 h
  have h3 : ((1073741824 : Int) ^ 8) ≤ 10 ^ 73 := by decide
  have h4 : (vl L).toNat ≤ 10 ^ 73 := by
    have : ((10 ^ 73 : Nat) : Int) = (10 : Int) ^ 73 := by norm_cast
    omega
  have h5 := len_mono _ _ h4
  have h6 : nDigits (10 ^ 73) = 74 := nDigits_unique 73 _ (by decide) (by decide)
  omega
theorem byte0 {s : List UInt8} {b : UInt8} (hb : s[0]? = some b) (hk : 0 < (ByteArray.mk ⟨s⟩).size) : (ByteArray.mk ⟨s⟩)[0] = b := by
  obtain ⟨h, e⟩ := List.getElem?_eq_some_iff.1 hb
  exact e
theorem bl_eq : ∀ (x y : List UInt8), Op.bytesLess x y = decide (x < y)
  | [], [] => by simp [Op.bytesLess]
  | _ :: _, [] => by simp [Op.bytesLess]
  | [], _ :: _ => by simp [Op.bytesLess]
  | a :: x, b :: y => by
    rw [Op.bytesLess, bl_eq x y]
    simp [List.cons_lt_cons_iff]
    rfl
end Nt
namespace Laws
open Nt
set_option maxHeartbeats 8000000 in
set_option maxRecDepth 100000 in
theorem natTexts_walk (a0 : Option Addr) (len0 cap0 : Nat) (z0 : List Int) (w : World) (hT : Tab w) (T : ∀ w w', Tab w → Below w.heap.size w w' → Tab w') (w0 : Buf.IsRow .i64 w a0 len0 cap0 z0) :
    Calls Tryd.prog 5 #[.slice a0 len0 cap0] w fun e w' => e = .returned (.bool true) ∧ Below w.heap.size w w' := by
  replace hT := Lib.hid hT
  have Sn := Lib.hid fun w1 (b : Below w.heap.size w w1) => Nt.sane_any w1 (T _ _ hT.out b) T
  by_cases hs : len0 ≤ 500
  · have hd : decide ((len0 : Int) ≤ 500) = true := by simp; omega
    go_enter Tryd.func5, Tryd.ntmps5
    go_upto_region 4 with (first | (go_at_call 14; refine (light_any _ _ _ _).mono ?_; rintro e w1 ⟨rfl, hw⟩; replace hw := hw.symm; subst hw; rw [hd]) | (go_at_call 15; refine (roll_any a0 len0 cap0 z0 _ w0 hs).mono ?_; rintro e w2 ⟨rfl, hdi⟩))
    go_wp2_with fail
    refine (nat8 hdi).mono ?_
    rintro e w3 ⟨⟨a, n, c, L, rfl, N1, LL, n8⟩, hl⟩
    have L0 := Lib.hid hl
    replace N1 := Lib.hid N1
    clear hl hdi
    go_wp2_with fail
    refine (nat8 L0.out.di).mono ?_
    rintro e w4 ⟨⟨a', n', c', M, rfl, N2, LM, m8⟩, hl⟩
    have B4 := Lib.hid hl.di.bel
    have N3 := N1.out.left L0.out.di hl
    clear hl L0 N1
    have T4 := T _ _ hT.out B4.out
    have ln : L.length ≤ 8 := by rw [← N3.len]; exact n8
    have lm : M.length ≤ 8 := by rw [← N2.len]; exact m8
    have X1 := Lib.hid (text_any N3 LL (by omega) T4 T (digits_le LL.rg ln))
    obtain ⟨m, hm⟩ : ∃ m, m = (vl L).toNat := ⟨_, rfl⟩
    obtain ⟨k, hk⟩ : ∃ k, k = (vl M).toNat := ⟨_, rfl⟩
    have m0 : vl L = (m : Int) := by have := vl_nn L LL.rg; omega
    have k0 : vl M = (k : Int) := by have := vl_nn M LM.rg; omega
    have dm := digits_le LL.rg ln
    have dk := digits_le LM.rg lm
    rw [← hm] at X1 dm
    rw [← hk] at dk
    have RD : rd (decDigits m) = L := by rw [hm]; exact rd_dec LL
    obtain ⟨s, hs'⟩ : ∃ s, s = decDigits m := ⟨_, rfl⟩
    obtain ⟨u, hu⟩ : ∃ u, u = decDigits k := ⟨_, rfl⟩
    have sl : 1 ≤ s.length := by
      rcases Nat.eq_zero_or_pos s.length with h | h
      · exact absurd (hs' ▸ List.eq_nil_of_length_eq_zero h) (dec_ne m)
      · exact h
    have s9 : s.length ≤ 1000 := by rw [hs', decDigits_length]; exact dm
    have sz : s.length = 1 ∨ ∀ c, s[0]? = some c → c.toNat ≠ 48 := by
      rcases Nat.eq_zero_or_pos m with h | h
      · left; rw [hs', h, decDigits_one (by omega)]; rfl
      · right; rw [hs']; exact dec_head m h
    have sd : Digs s := hs' ▸ dec_digs m
    have PA := Lib.hid fun w1 => parse_any s s.length rfl sl s9 sd sz (fun i => Nat.le_trans (rd_take _ sd i) (by rw [hs', RD]; omega)) w1
    have CA := Lib.hid fun w1 (b : Below w4.heap.size w4 w1) => Compare_any (N3.below b) (N2.below b) LL LM (by omega) (by omega)
    have X2 := Lib.hid fun w1 (b : Below w4.heap.size w4 w1) => text_any (N2.below b) LM (by omega) (T _ _ T4 b) T (by rw [← hk]; exact dk)
    rw [← hk, ← hu] at X2
    rw [← hs'] at X1
    have RS : rd s = L := by rw [hs']; exact RD
    have O : (m < k ∧ s.length < u.length) ∨ (m < k ∧ s.length = u.length ∧ s < u) ∨ (k < m ∧ u.length < s.length) ∨ (k < m ∧ s.length = u.length ∧ ¬ s < u ∧ s ≠ u) ∨ (m = k ∧ s = u) := by
      rcases Nat.lt_trichotomy m k with h | h | h
      · rcases Nat.lt_trichotomy s.length u.length with e | e | e
        · exact .inl ⟨h, e⟩
        · exact .inr (.inl ⟨h, e, by rw [hs', hu] at e ⊢; exact (dec_lt m k e).2 h⟩)
        · have := (len_lt k m (by rw [← hs', ← hu]; omega)).2 (by rw [← hs', ← hu]; exact e)
          omega
      · exact .inr (.inr (.inr (.inr ⟨h, by rw [hs', hu, h]⟩)))
      · rcases Nat.lt_trichotomy s.length u.length with e | e | e
        · have := (len_lt m k (by rw [← hs', ← hu]; omega)).2 (by rw [← hs', ← hu]; exact e)
          omega
        · exact .inr (.inr (.inr (.inl ⟨h, e, fun hl => by rw [hs', hu] at e hl; have := (dec_lt m k e).1 hl; omega, fun he => by rw [hs', hu] at he; have := dec_inj he; omega⟩)))
        · exact .inr (.inr (.inl ⟨h, e⟩))
    obtain ⟨b0, hb0⟩ : ∃ b, s[0]? = some b := ⟨s[0]'(by omega), List.getElem?_eq_getElem _⟩
    have hsz : (ByteArray.mk ⟨s⟩).size = s.length := rfl
    have hk0 : 0 < (ByteArray.mk ⟨s⟩).size := by omega
    have hby0 := byte0 hb0 hk0
    have hz' : (¬ ((1 : Int) < s.length)) ∨ ((1 : Int) < s.length ∧ ((b0.toNat : Int) == 48) = false) := by
      by_cases e : s.length = 1
      · left; omega
      · right
        refine ⟨by omega, ?_⟩
        rcases sz with h | h
        · exact absurd h e
        · rw [beq_eq_false_iff_ne]; have := h b0 hb0; omega
    have hemp : s.isEmpty = false := by
      cases s with
      | nil => simp at sl
      | cons => rfl
    replace O := Lib.hid O
    replace N3 := Lib.hid N3
    replace N2 := Lib.hid N2
    replace RS := Lib.hid RS
    replace hb0 := Lib.hid hb0
    replace m0 := Lib.hid m0
    replace k0 := Lib.hid k0
    clear sz sd dm dk hm hk RD hs' hu LL LM T4 n8 m8 lm
    go_upto_region 6 with (go_at_call 21; refine X1.out.mono ?_; rintro e w5 ⟨rfl, b5⟩)
    go_upto_region 7 with (go_at_call 21; refine (X2.out _ b5).mono ?_; rintro e w6 ⟨rfl, b6⟩)
    go_upto_region 8 with (go_at_call 22; refine (PA.out _).mono ?_; rintro e w7 ⟨⟨v, rfl, ho⟩, b7⟩)
    rw [RS.out] at ho
    obtain ⟨a7, n7, c7, rfl, N7⟩ := nr_own ho (by omega)
    have B7 := Buf.then_ b5 (Buf.then_ b6 b7)
    have N8 := N3.out.below B7
    replace CA := Lib.hid (CA.out _ B7)
    have B8 := Lib.hid (Buf.then_ B4.out B7)
    clear b5 b6 b7 B7 X1 X2 PA ho N3 N2
    go_wp2_with fail
    refine CA.out.mono ?_
    rintro e w8 ⟨ht, hm⟩
    have b8 := bel_drew hm
    have en : n7 = n := N7.len.trans N8.len.symm
    subst en
    have SM := Lib.hid (same_any (N7.below b8) (N8.below b8))
    have BW := Lib.hid (Buf.then_ B8.out b8)
    replace SN := Lib.hid fun w1 (b : Below w8.heap.size w8 w1) => Sn.out w1 (Buf.then_ BW.out b)
    clear N7 N8 hm CA b8 B8 Sn hT
    unfold Nt.Told at ht
    rw [m0.out, k0.out] at ht
    clear m0 k0
    obtain ⟨p, hp⟩ : ∃ p, p = s.length := ⟨_, rfl⟩
    obtain ⟨q, hq⟩ : ∃ q, q = u.length := ⟨_, rfl⟩
    have ei : ((s.length : Int) != (u.length : Int)) = decide (s.length ≠ u.length) := by
      by_cases h : s.length = u.length
      · rw [h]; simp
      · rw [decide_eq_true h, bne_iff_ne]; omega
    rcases hz' with z1 | ⟨z1, z2⟩
    all_goals
      rcases O.out with ⟨o1, o2⟩ | ⟨o1, o2, o3⟩ | ⟨o1, o2⟩ | ⟨o1, o2, o3, o4⟩ | ⟨o1, o2⟩
      · obtain rfl : e = .returned (.int .i64 (-1)) := by
          rcases ht with ⟨h, h'⟩ | ⟨h, h'⟩ | ⟨h, h'⟩ <;> first | exact h | omega
        clear ht
        have e1 : ((s.length : Int) != (u.length : Int)) = true := by rw [ei]; simp; omega
        clear ei
        have e2 : decide ((s.length : Int) < (u.length : Int)) = true := by simp; omega
        have e3 : decide (s.length < u.length) = true := by simp; omega
        go_wp2_with (first | (go_at_call 20; refine SM.out.mono ?_; rintro e w9 ⟨rfl, hm⟩) | (go_at_call 13; refine (SN.out _ (bel_drew hm)).mono ?_; rintro e w10 ⟨rfl, b10⟩))
        all_goals first
          | (go_ret; exact ⟨rfl, Buf.then_ BW.out (Buf.then_ (bel_drew hm) b10)⟩)
          | (exact absurd (by assumption) e3)
      · obtain rfl : e = .returned (.int .i64 (-1)) := by
          rcases ht with ⟨h, h'⟩ | ⟨h, h'⟩ | ⟨h, h'⟩ <;> first | exact h | omega
        clear ht
        have e1 : ((s.length : Int) != (u.length : Int)) = false := by rw [ei]; simp [o2]
        clear ei
        have e2 : Op.bytesLess s u = true := by rw [bl_eq]; simpa using o3
        have e3 : s ≠ u := fun h => by rw [h] at o3; exact List.lt_irrefl _ o3
        have e4 : (s == u) = false := beq_eq_false_iff_ne.2 e3
        go_wp2_with (first | (go_at_call 20; refine SM.out.mono ?_; rintro e w9 ⟨rfl, hm⟩) | (go_at_call 13; refine (SN.out _ (bel_drew hm)).mono ?_; rintro e w10 ⟨rfl, b10⟩))
        all_goals first
          | (go_ret; exact ⟨rfl, Buf.then_ BW.out (Buf.then_ (bel_drew hm) b10)⟩)
          | (exact absurd (by assumption) e3)
      · obtain rfl : e = .returned (.int .i64 (1)) := by
          rcases ht with ⟨h, h'⟩ | ⟨h, h'⟩ | ⟨h, h'⟩ <;> first | exact h | omega
        clear ht
        have e1 : ((s.length : Int) != (u.length : Int)) = true := by rw [ei]; simp; omega
        clear ei
        have e2 : decide ((s.length : Int) < (u.length : Int)) = false := by simp; omega
        have e3 : decide (s.length < u.length) = false := by simp; omega
        go_wp2_with (first | (go_at_call 20; refine SM.out.mono ?_; rintro e w9 ⟨rfl, hm⟩) | (go_at_call 13; refine (SN.out _ (bel_drew hm)).mono ?_; rintro e w10 ⟨rfl, b10⟩))
        all_goals first
          | (go_ret; exact ⟨rfl, Buf.then_ BW.out (Buf.then_ (bel_drew hm) b10)⟩)
          | (exact absurd (by assumption) e3)
      · obtain rfl : e = .returned (.int .i64 (1)) := by
          rcases ht with ⟨h, h'⟩ | ⟨h, h'⟩ | ⟨h, h'⟩ <;> first | exact h | omega
        clear ht
        have e1 : ((s.length : Int) != (u.length : Int)) = false := by rw [ei]; simp [o2]
        clear ei
        have e2 : Op.bytesLess s u = false := by rw [bl_eq]; simpa using o3
        have e3 := o4
        have e4 : (s == u) = false := beq_eq_false_iff_ne.2 e3
        go_wp2_with (first | (go_at_call 20; refine SM.out.mono ?_; rintro e w9 ⟨rfl, hm⟩) | (go_at_call 13; refine (SN.out _ (bel_drew hm)).mono ?_; rintro e w10 ⟨rfl, b10⟩))
        all_goals first
          | (go_ret; exact ⟨rfl, Buf.then_ BW.out (Buf.then_ (bel_drew hm) b10)⟩)
          | (exact absurd (by assumption) e3)
      · obtain rfl : e = .returned (.int .i64 (0)) := by
          rcases ht with ⟨h, h'⟩ | ⟨h, h'⟩ | ⟨h, h'⟩ <;> first | exact h | omega
        clear ht
        subst o2
        have e1 : ((s.length : Int) != (s.length : Int)) = false := by simp
        have e2 : Op.bytesLess s s = false := by rw [bl_eq]; simp
        clear ei
        go_wp2_with (first | (go_at_call 20; refine SM.out.mono ?_; rintro e w9 ⟨rfl, hm⟩) | (go_at_call 13; refine (SN.out _ (bel_drew hm)).mono ?_; rintro e w10 ⟨rfl, b10⟩))
        all_goals first
          | (go_ret; exact ⟨rfl, Buf.then_ BW.out (Buf.then_ (bel_drew hm) b10)⟩)
          | (exact absurd (by assumption) e3)
  · have hd : decide ((len0 : Int) ≤ 500) = false := by simp; omega
    go_enter Tryd.func5, Tryd.ntmps5
    go_wp2_with (first | (go_at_call 14; refine (light_any _ _ _ _).mono ?_; rintro e w1 ⟨rfl, rfl⟩; rw [hd]) | (go_at_call 13; refine (Sn.out _ (Below.refl _ _)).mono ?_; rintro e w2 ⟨rfl, hb⟩))
    go_ret
    exact ⟨rfl, hb⟩
end Laws
end Go.Proofs.YtimjhbccdlfjkaaDoor
