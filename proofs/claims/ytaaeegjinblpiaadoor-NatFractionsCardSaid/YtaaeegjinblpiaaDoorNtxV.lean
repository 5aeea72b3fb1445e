/- Text: the walk. -/
import Derived.Test.YtaaeegjinblpiaaDoorNtxU
set_option linter.unusedVariables false
set_option linter.unusedSimpArgs false
namespace Go.Proofs.YtaaeegjinblpiaaDoor
open Go.RowKit Dice Go.Lib
namespace Nt
theorem bapp (x y : List UInt8) : (ByteArray.mk ⟨x⟩ ++ ByteArray.mk ⟨y⟩) = ByteArray.mk ⟨x ++ y⟩ := by
  apply ByteArray.ext
  rw [ByteArray.data_append]
  simp
set_option maxHeartbeats 4000000 in
set_option maxRecDepth 100000 in
theorem text_any {w : World} {a : Option Addr} {n c : Nat} {L : List Int} (h : Nr w a n c L) (hL : Limbs L) (h64 : n ≤ 64) (hT : Tab w) (T : ∀ w w', Tab w → Below w.heap.size w w' → Tab w') (hN : nDigits (vl L).toNat ≤ 1000) :
    Calls Tryd.prog 32 #[.slice a n c] w fun e w' => e = .returned (.tuple #[.string ⟨⟨decDigits (vl L).toNat⟩⟩, .int .i64 0]) ∧ Below w.heap.size w w' := by
  have VA := Lib.hid (valid_any h hL h64)
  have hnc := h.nc
  by_cases h0 : n = 0
  · have hLn : L = [] := List.length_eq_zero_iff.1 (by rw [← h.len, h0])
    subst h0
    subst hLn
    clear h
    go_enter Tryd.func32, Tryd.ntmps32
    go_wp2_with fail
    refine VA.out.mono ?_
    rintro e w1 ⟨rfl, hw⟩
    replace hw := hw.symm
    subst hw
    go_wp2_with fail
    go_ret2
    exact ⟨by rw [show decDigits (vl []).toNat = [48] from decDigits_one (by decide)]; rfl, Below.refl _ _⟩
  · have H := Lib.hid h
    have HT := Lib.hid hT
    have HL := Lib.hid hL
    replace T := Lib.hid T
    have hn0 : ((n : Int) == 0) = false := by rw [beq_eq_false_iff_ne]; omega
    clear h hT hL
    go_enter Tryd.func32, Tryd.ntmps32
    go_wp2_with fail
    refine VA.out.mono ?_
    rintro e w1 ⟨rfl, hw⟩
    replace hw := hw.symm
    subst hw
    clear VA
    go_wp2_with fail
    have BN := Lib.hid (show (dz (vl L).toNat).length ≤ 1000 by
      unfold dz
      split
      · simp
      · rw [decDigits_length]; exact hN)
    have I0 := Lib.hid (show dz (vl L).toNat = dz (vl L).toNat ++ [] by rw [List.append_nil])
    clear hN
    go_loopw [0, 4] (fun v t wr => ∃ (x : World) (a' : Option Addr) (n' c' : Nat) (L' : List Int) (tx : List UInt8), x = wr ∧ v = .slice a' n' c' ∧ t = .string ⟨⟨tx⟩⟩ ∧ n' ≤ c' ∧ Hid (Nr x a' n' c' L') ∧ Hid (Limbs L') ∧ Hid (Below w.heap.size w x) ∧ Hid (dz (vl L).toNat = dz (vl L').toNat ++ tx)) (fun _ t _ => match t with | .string s => 1001 - s.size | _ => 0)
    case atStart => exact ⟨_, a, n, c, L, [], rfl, rfl, rfl, hnc, H, HL, Lib.hid (Below.refl _ _), I0⟩
    case round =>
      clear I0
      obtain ⟨x, a', n', c', L', tx, rfl, rfl, rfl, hnc', HN', HL', HB', HI'⟩ := hrel
      by_cases hz : n' = 0
      · have hLn : L' = [] := List.length_eq_zero_iff.1 (by rw [← HN'.out.len, hz])
        have htx : Hid (tx = dz (vl L).toNat) := Lib.hid (by rw [HI'.out, hLn]; rfl)
        subst hz
        go_wp2_with fail
        go_ret2
        refine ⟨?_, HB'.out⟩
        have hL0 : L ≠ [] := fun e => h0 (by rw [H.out.len, e]; rfl)
        have hp := vl_pos L HL.out hL0
        have : tx = decDigits (vl L).toNat := by rw [htx.out]; unfold dz; rw [if_neg (by omega)]
        rw [← this]; rfl
      · obtain ⟨V, hV⟩ : ∃ V : Nat, vl L' = (V : Int) := ⟨(vl L').toNat, by have := vl_nn L' HL'.out.rg; omega⟩
        have hVt : (vl L').toNat = V := by rw [hV]; rfl
        have hLn : L' ≠ [] := fun e => hz (by rw [HN'.out.len, e]; rfl)
        have hV1 : V ≠ 0 := by have := vl_pos L' HL'.out hLn; omega
        rw [hVt] at HI'
        obtain ⟨r, hr⟩ : ∃ r, r = V % 1000000000 := ⟨_, rfl⟩
        have hrI : vl L' % 1000000000 = (r : Int) := by rw [hV, hr]; omega
        have hr9 : r < 1000000000 := by omega
        obtain ⟨D1, D2, _⟩ := div_spec HL'.out 1000000000 (by omega)
        rw [hV] at D2
        have DV := Lib.hid (divide_any 1000000000 HN'.out HL'.out (by omega) (by omega))
        rw [hrI] at DV
        generalize tr (dq 1000000000 L').1 = Q at D1 D2 DV
        have hn'0 : (0 : Int) < n' := by omega
        have ns := nine r hr9
        have np := nDigits_pos r
        have hsz : (ByteArray.mk ⟨decDigits r⟩).size = nDigits r := decDigits_length r
        have hts : (ByteArray.mk ⟨tx⟩).size = tx.length := rfl
        replace D1 := Lib.hid D1
        replace D2 := Lib.hid D2
        replace hr := Lib.hid hr
        replace hV := Lib.hid hV
        clear hrI hVt hLn
        go_wp2_with fail
        refine DV.out.mono ?_
        rintro e w2 ⟨⟨a2, n2, c2, rfl, NQ⟩, b2⟩
        have B2 := Lib.hid (Buf.then_ HB'.out b2)
        have T2 := T.out _ _ HT.out B2.out
        have IT := Lib.hid (itoa_any r w2 T2 (by omega))
        have hnc2 := NQ.nc
        have hq2 : Hid (n2 = Q.length) := Lib.hid NQ.len
        replace NQ := Lib.hid NQ
        clear DV b2 T2
        go_wp2_with fail
        refine IT.out.mono ?_
        rintro e w3 ⟨rfl, b3⟩
        have B3 := Lib.hid (Buf.then_ B2.out b3)
        replace NQ := Lib.hid (NQ.out.below b3)
        clear IT b3
        by_cases hq0 : n2 = 0
        · have hQ : Q = [] := List.length_eq_zero_iff.1 (by rw [← hq2.out, hq0])
          have hVq : V / 1000000000 = 0 := by
            have := D2.out; rw [hQ] at this
            have e : vl [] = 0 := rfl
            rw [e] at this; omega
          have hlow := dz_low V hV1 hVq
          have HI2 : Hid (dz (vl L).toNat = dz (vl Q).toNat ++ (decDigits r ++ tx)) := Lib.hid (by
            rw [HI'.out, hlow, hQ, ← hr.out]; rfl)
          have hlen : nDigits r + tx.length ≤ 1000 := by
            have := BN.out; rw [HI2.out, List.length_append, List.length_append, decDigits_length] at this; omega
          replace hlow := Lib.hid hlow
          subst hq0
          have hsum : ¬ (9223372036854775807 < nDigits r + tx.length) := by omega
          have hdl := decDigits_length r
          have hap := bapp (decDigits r) tx
          go_wp2_with fail
          refine ⟨⟨_, _, _, _, _, decDigits r ++ tx, rfl, rfl, rfl, hnc2, NQ, D1, B3, HI2⟩, ?_⟩
          show 1001 - (decDigits r ++ tx).length < 1001 - tx.length
          rw [List.length_append]; omega
        · have hQ0 : V / 1000000000 ≠ 0 := by
            intro e
            have := D2.out
            have hQn : Q ≠ [] := fun e => hq0 (by rw [hq2.out, e]; rfl)
            have := vl_pos Q D1.out hQn
            omega
          have hhi := dz_high V hQ0
          have hvq : (vl Q).toNat = V / 1000000000 := by rw [D2.out]; omega
          rw [← hr.out, ← hvq] at hhi
          have HI2 : Hid (dz (vl L).toNat = dz (vl Q).toNat ++ ((List.replicate (9 - nDigits r) 48 ++ decDigits r) ++ tx)) := Lib.hid (by
            rw [HI'.out, hhi, List.append_assoc])
          have hlen : 9 + tx.length ≤ 1000 := by
            have := BN.out; rw [HI2.out, List.length_append, List.length_append, List.length_append, List.length_replicate, decDigits_length] at this; omega
          have n2p : (0 : Int) < n2 := by omega
          have hw9 : IntKind.i64.wrap (9 - (nDigits r : Int)) = ((9 - nDigits r : Nat) : Int) := by rw [show (9 : Int) - (nDigits r : Int) = ((9 - nDigits r : Nat) : Int) by omega]; exact IntWalk.i64_in _ (by omega)
          obtain ⟨Z, hZ⟩ : ∃ Z : List UInt8, Z = List.replicate (9 - nDigits r) 48 := ⟨_, rfl⟩
          have RP := Lib.hid fun w => repeat_any (9 - nDigits r) w (by omega)
          have hrl : Z.length = 9 - nDigits r := by rw [hZ]; exact List.length_replicate
          rw [← hZ] at HI2 RP
          have hdl := decDigits_length r
          replace hhi := Lib.hid hhi
          replace hvq := Lib.hid hvq
          replace hZ := Lib.hid hZ
          clear hQ0
          have hap := bapp Z (decDigits r)
          have hap2 := bapp (Z ++ decDigits r) tx
          have hs1 : (ByteArray.mk ⟨Z⟩).size = 9 - nDigits r := hrl
          have hs2 : (ByteArray.mk ⟨Z ++ decDigits r⟩).size = 9 := by
            show (Z ++ decDigits r).length = 9
            rw [List.length_append, hrl, hdl]; omega
          have hs3 : ¬ (9223372036854775807 < 9 - nDigits r + nDigits r) := by omega
          have hs4 : ¬ (9223372036854775807 < 9 + tx.length) := by omega
          go_wp2_with fail
          refine (RP.out w3).mono ?_
          rintro e w4 ⟨rfl, b4⟩
          have B4 := Lib.hid (Buf.then_ B3.out b4)
          replace NQ := Lib.hid (NQ.out.below b4)
          clear RP b4
          go_wp2_with fail
          rw [List.append_assoc] at HI2
          refine ⟨⟨_, _, _, _, _, Z ++ (decDigits r ++ tx), rfl, rfl, rfl, hnc2, NQ, D1, B4, HI2⟩, ?_⟩
          show 1001 - (Z ++ (decDigits r ++ tx)).length < 1001 - tx.length
          rw [List.length_append, List.length_append, hrl, hdl]; omega
end Nt
end Go.Proofs.YtaaeegjinblpiaaDoor
