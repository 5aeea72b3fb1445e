/- The walk of SteimBack. -/
import Derived.Test.YthdahfaejpjkhaaStmO
set_option linter.unusedVariables false
set_option linter.unusedSimpArgs false
namespace Go.Proofs.Ythdahfaejpjkhaa
open Go.RowKit Dice Ri Rk
namespace St
/-- The samples of the dice, as a row. -/
theorem sampled (n : Nat) (N : Int) (hN : N = (n : Int)) (n1 : 1 ≤ n) (n2 : n ≤ 100) {W w : World} {d : Nat} {a : Option Addr} {len cap : Nat} {zs : List Int} (h : Di W w d a len cap zs) :
    Calls Try.prog 10 #[.pointer (some ⟨d, 0, none⟩), .int .i64 N] w fun e w' => (∃ b m c L, e = .returned (.slice b m c) ∧ m = L.length ∧ Ro w' b m c L ∧ InS L ∧ 1 ≤ m ∧ m ≤ n ∧ (∀ g o, b = some ⟨g, o, none⟩ → w.heap.size ≤ g)) ∧ Dice.Left W w w' d a len cap zs := by
  subst hN
  refine (Sm.samples_any n n1 n2 h).mono ?_
  rintro e w' ⟨⟨v, L, rfl, O, hin, l1, l2⟩, hl⟩
  obtain ⟨b, m, c, rfl, R⟩ := ro_any O
  have hm := R.len
  subst hm
  refine ⟨⟨b, _, c, L, rfl, rfl, R, fun x hx => ?_, l1, l2, fun g o e => ?_⟩, hl⟩
  · obtain ⟨j, hj, e⟩ := List.getElem_of_mem hx
    have := hin j hj
    unfold Sm.fn at this
    rw [List.getD_eq_getElem?_getD, List.getElem?_eq_getElem hj] at this
    rw [← e]; exact this
  · subst e
    rcases O with ⟨e, _⟩ | ⟨g', c', e, hb⟩
    · cases e
    · injection e with e1 e2 e3
      have := Option.some.inj e1
      injection this with e4 _
      rw [e4]; exact hb.base
theorem fo_le (L : List Int) (h : L.length ≤ 100) : fo (wds (df L)).length ≤ 8 := by
  have := (wds_len (df L)).1
  rw [df_length] at this
  unfold fo; omega
end St
namespace Laws
open St
set_option maxHeartbeats 8000000 in
set_option maxRecDepth 100000 in
theorem steimBack_walk (a0 : Option Addr) (len0 cap0 : Nat) (z0 : List Int) (w : World) (w0 : Buf.IsRow .i64 w a0 len0 cap0 z0) :
    Calls Try.prog 3 #[.slice a0 len0 cap0] w fun e w' => e = .returned (.bool true) ∧ Below w.heap.size w w' := by
  have Sn := Lib.hid St.sane_any
  by_cases hs : len0 ≤ 500
  · have hd : decide ((len0 : Int) ≤ 500) = true := by simp; omega
    go_enter Try.func3, Try.ntmps3
    go_upto_region 4 with (first | (go_at_call 7; refine (light_any _ _ _ _).mono ?_; rintro e w1 ⟨rfl, hw⟩; replace hw := hw.symm; subst hw; rw [hd]) | (go_at_call 9; refine (roll_any a0 len0 cap0 z0 _ w0 hs).mono ?_; rintro e w2 ⟨rfl, hdi⟩))
    go_wp2_with fail
    with_reducible refine (sampled 100 100 rfl (by omega) (by omega) hdi).mono ?_
    rintro e w3 ⟨⟨b, n, c, L, rfl, hn, R, hL, l1, l9, hbn⟩, hl⟩
    have hgd : Hid (w.heap.size < w2.heap.size) := Lib.hid hdi.lt
    have D3 := Lib.hid hl
    have hf := fo_le L (by omega)
    have E := Lib.hid (encode_any R l1 (by omega) hL hf)
    have DE := Lib.hid fun (m : Nat) (m1 : 1 ≤ m) (m9 : m ≤ n) w' => decode_enc L hL (L.getD (L.length - 1) 0 % 4294967296) (by omega) (by omega) hf m m1 (by omega) (by omega) _ (sg32 _ (getD_in hL _)) w'
    have CN := Lib.hid fun w' => canonical_any L hL hf (by omega) (by omega) w'
    have hen : bys (allw (fo (wds (df L)).length) (ewy L (L.getD (L.length - 1) 0 % 4294967296))) = enc L := rfl
    rw [hen] at DE
    have D1 := Lib.hid fun w' => (DE.out n l1 (Nat.le_refl _) w')
    rw [hn, List.take_length] at D1
    rw [← hn] at D1 CN DE
    generalize enc L = s at *
    replace R := Lib.hid R
    replace hn := Lib.hid hn
    clear hl hdi hen
    go_wp2_with fail
    with_reducible refine E.out.mono ?_
    rintro e w4 ⟨rfl, b4⟩
    replace R := Lib.hid (R.out.below b4)
    replace D3 := Lib.hid (D3.out.below b4)
    clear b4 E
    go_wp2_with fail
    with_reducible refine (D1.out _).mono ?_
    rintro e w5 ⟨h5, b5⟩
    obtain ⟨b', c', rfl, R'⟩ : ∃ b' c', e = .returned (.tuple #[.slice b' n c', .int .i64 0]) ∧ Ro w5 b' n c' L := by
      rcases h5 with ⟨_, h⟩ | ⟨h, _⟩
      · exact h
      · exact absurd rfl h
    replace R := Lib.hid (R.out.below b5)
    replace D3 := Lib.hid (D3.out.below b5)
    clear b5 h5 D1
    have SM := Lib.hid (same_any R' R.out)
    clear R'
    go_wp2_with fail
    with_reducible refine SM.out.mono ?_
    rintro e w6 ⟨rfl, b6⟩
    replace R := Lib.hid (R.out.below b6)
    replace D3 := Lib.hid (D3.out.below b6)
    clear b6 SM
    go_wp2_with fail
    with_reducible refine (CN.out _).mono ?_
    rintro e w7 ⟨rfl, b7⟩
    replace R := Lib.hid (R.out.below b7)
    replace D3 := Lib.hid (D3.out.below b7)
    clear b7 CN
    have n1i : (1 : Int) ≤ n := by omega
    go_wp2_with fail
    with_reducible refine (next_any (n : Int) D3.out.di (by omega) (by omega)).mono ?_
    rintro e w8 ⟨⟨v, rfl, v0, v1⟩, hl⟩
    have R8 := R.out.kept (w' := w8) (fun g o e h0 => hl.far.block g (by obtain ⟨g', o', e', hg, _⟩ := R.out.at_ h0; rw [e'] at e; have := Option.some.inj e; injection this with e1 _; omega) (by intro e2; have e3 : g = w.heap.size := Option.some.inj e2; have := hbn g o e; have := hgd.out; omega)) hl.far.size
    have B8 := Lib.hid (D3.out.trans hl).di.bel
    replace R8 := Lib.hid R8
    clear hl D3 R
    obtain ⟨m, rfl⟩ := Int.eq_ofNat_of_zero_le v0
    obtain ⟨q, hq⟩ : ∃ q : Nat, q = 1 + m := ⟨_, rfl⟩
    have eq : (1 : Int) + ((m : Nat) : Int) = (q : Int) := by omega
    have q1 : 1 ≤ q := by omega
    have q9 : q ≤ n := by omega
    have DQ := Lib.hid fun w' => DE.out q q1 q9 w'
    have EQ := Lib.hid eq
    replace hq := Lib.hid hq
    clear DE eq
    go_wp2_with fail
    rw [EQ.out]
    with_reducible refine (DQ.out _).mono ?_
    rintro e w9 ⟨h9, b9⟩
    replace R8 := Lib.hid (R8.out.below b9)
    replace B8 := Lib.hid (Buf.then_ B8.out b9)
    clear b9 DQ
    obtain ⟨g, o, rfl⟩ := R8.out.form (by omega)
    have cx := R8.out.cell (q - 1) (by omega)
    have cy := R8.out.cell (n - 1) (by omega)
    obtain ⟨j, hj⟩ : ∃ j, j = q - 1 := ⟨_, rfl⟩
    obtain ⟨i, hi⟩ : ∃ i, i = n - 1 := ⟨_, rfl⟩
    rw [← hj] at cx h9
    rw [← hi] at cy h9
    generalize L.getD j 0 = x at *
    generalize L.getD i 0 = y at *
    have ej : (q : Int) - 1 = (j : Int) := by omega
    have ei : (n : Int) - 1 = (i : Int) := by omega
    have jn : (j : Int) < n := by omega
    have jn' : j < n := by omega
    have in_ : (i : Int) < n := by omega
    have in' : i < n := by omega
    replace hj := Lib.hid hj
    replace hi := Lib.hid hi
    have hnc := R8.out.nc
    have hcc := R8.out.cap
    rcases h9 with ⟨hxy, b', c', rfl, R'⟩ | ⟨hxy, rfl⟩
    · have d1 : (x == y) = true := by simp [hxy]
      have SM := Lib.hid (same_any R' (R8.out.take q q9))
      have qn : (q : Int) ≤ n := by omega
      have qc : (q : Int) ≤ c := by omega
      clear hxy
      go_wp2_with fail
      go_quiet (fail)
      have bq := Buf.below_drewN (Below.refl w9.heap.size w9) nq
      have SM2 := Lib.hid (same_any (R'.below bq) ((R8.out.take q q9).below bq))
      generalize w9.drewN nq = w10 at *
      replace B8 := Lib.hid (Buf.then_ B8.out bq)
      clear SM bq
      go_wp2_with fail
      with_reducible refine SM2.out.mono ?_
      rintro e w11 ⟨rfl, b11⟩
      replace B8 := Lib.hid (Buf.then_ B8.out b11)
      clear b11
      go_wp2_with fail
      with_reducible refine (Sn.out _).mono ?_
      rintro e w12 ⟨rfl, b12⟩
      go_wp2_with fail
      go_ret
      exact ⟨rfl, Buf.then_ B8.out b12⟩
    · have d1 : (x == y) = false := by simp [hxy]
      clear hxy
      go_wp2_with fail
      go_quiet (fail)
      have bq := Buf.below_drewN (Below.refl w9.heap.size w9) nq
      generalize w9.drewN nq = w10 at *
      replace B8 := Lib.hid (Buf.then_ B8.out bq)
      clear bq
      go_wp2_with fail
      with_reducible refine (Sn.out _).mono ?_
      rintro e w12 ⟨rfl, b12⟩
      go_wp2_with fail
      go_ret
      exact ⟨rfl, Buf.then_ B8.out b12⟩
  · have hd : decide ((len0 : Int) ≤ 500) = false := by simp; omega
    go_enter Try.func3, Try.ntmps3
    go_wp2_with (first | (go_at_call 7; refine (light_any _ _ _ _).mono ?_; rintro e w1 ⟨rfl, rfl⟩; rw [hd]) | (go_at_call 8; refine (Sn.out _).mono ?_; rintro e w2 ⟨rfl, hb⟩))
    go_ret
    exact ⟨rfl, hb⟩
end Laws
end Go.Proofs.Ythdahfaejpjkhaa
