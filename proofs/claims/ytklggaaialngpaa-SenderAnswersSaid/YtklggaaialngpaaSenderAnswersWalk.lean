/- The walk of SenderAnswers. -/
import Derived.Test.YtklggaaialngpaaSndF
import Derived.Test.YtklggaaialngpaaSndG
import Derived.Lib.MinMax
set_option linter.unusedVariables false
set_option linter.unusedSimpArgs false
namespace Go.Proofs.Ytklggaaialngpaa
open Go.RowKit Wi Dice
namespace Laws
open Snd
theorem filt_mem {l : List (Int × Int)} {f : Int} {n : Nat} {x : Int} (h : x ∈ filt l f n) : f ≤ x ∧ Sp.hasB l x = true := by
  obtain ⟨h1, h2⟩ := List.mem_filter.1 h
  obtain ⟨k, _, rfl⟩ := List.mem_map.1 h1
  exact ⟨by omega, h2⟩
theorem filt_at {l : List (Int × Int)} {f : Int} {j n : Nat} (hj : j < n) (h : Sp.hasB l (f + j) = true) : (filt l f n)[(filt l f j).length]? = some (f + j) := by
  obtain ⟨k, rfl⟩ := Nat.exists_eq_add_of_le (show j + 1 ≤ n from hj)
  obtain ⟨t, ht⟩ := filt_pre l f (j + 1) k
  rw [← ht, filt_yes l f j h, List.append_assoc, List.getElem?_append_right (Nat.le_refl _)]
  simp
theorem filt_le {l : List (Int × Int)} {f : Int} {j n : Nat} (hj : j ≤ n) : (filt l f j).length ≤ (filt l f n).length := by
  obtain ⟨k, rfl⟩ := Nat.exists_eq_add_of_le hj
  exact (filt_pre l f j k).length_le
/-- A cell of a list of ints. -/
theorem ownI_get {w : World} {B : Nat} {a : Option Addr} {n c : Nat} {L : List Int} (h : OwnI w B (.slice a n c) L) (k : Nat) (x : Int) (hk : L[k]? = some x) : ∃ g, a = some ⟨g, 0, none⟩ ∧ n ≤ c ∧ w.cell? ⟨g, k, none⟩ = some (.int .i64 x) := by
  have hl := (List.getElem?_eq_some_iff.1 hk).1
  rcases Sp.own_shape h with ⟨e, h0⟩ | ⟨g, c', e, h1, h2⟩
  · omega
  · simp only [Value.slice.injEq] at e
    obtain ⟨rfl, rfl, rfl⟩ := e
    refine ⟨g, rfl, h1, ?_⟩
    have h' : w.ownsRow B 3 1 (.slice (some ⟨g, 0, none⟩) L.length c) L.length (cellsI L) := h
    rw [World.ownsRow.cellAt h' k (by omega)]
    simp [cellsI, hk]
set_option maxRecDepth 100000 in
set_option maxHeartbeats 8000000 in
theorem senderAnswers_walk (a0 : Option Addr) (len0 cap0 : Nat) (z0 : List Int) (a1 : Int) (w : World) (w0 : Buf.IsRow .i64 w a0 len0 cap0 z0) (w1 : (Lit.int .u8 a1).wf = true) :
    Calls Try.prog 4 #[.slice a0 len0 cap0, .int .u8 a1] w fun e w' => e = .returned (.bool true) ∧ Below w.heap.size w w' := by
  have hw1 := Ma.wf_u8 w1
  go_enter Try.func4, Try.ntmps4
  go_wp2_with fail
  refine (light_any a0 len0 cap0 w).mono ?_
  rintro e w' ⟨rfl, rfl⟩
  by_cases hl : (len0 : Int) ≤ 500
  · rw [decide_eq_true hl]
    go_wp2_with fail
    refine (roll_any a0 len0 cap0 z0 w' w0 (by omega)).mono ?_
    rintro e w2 ⟨rfl, D⟩
    have hg2 := D.lt
    go_wp2_with fail
    refine (sender_any D).mono ?_
    rintro e w3 ⟨⟨sz, f, a2, n, c2, ms, rfl, GD, f8, RW⟩, l3⟩
    have hle3 := l3.far.size
    go_wp2_with fail
    refine (Sp.spans_any l3.di).mono ?_
    rintro e w4 ⟨⟨v, l, rfl, SP, hl5⟩, l4⟩
    have RW4 := Lib.hid (row_far2 RW l4.far hg2)
    have GD' := Lib.hid GD
    obtain ⟨s1, s2, f0, f1, le, _⟩ := GD
    obtain ⟨fn, rfl⟩ := Int.eq_ofNat_of_zero_le f0
    have hn256 : n ≤ 256 := by omega
    have B4 := Lib.hid (l4.di.bel)
    have b6 := Lib.hid (heap_alloc_new w4 (.cells #[.int .i64 sz, .int .i64 (fn : Int), .slice a2 n c2] 30))
    have BA := Lib.hid (B4.out.alloc B4.out.size (.cells #[.int .i64 sz, .int .i64 (fn : Int), .slice a2 n c2] 30))
    have RA := Lib.hid (RW4.out.below (new_block (.cells #[.int .i64 sz, .int .i64 (fn : Int), .slice a2 n c2] 30)))
    have SA := Lib.hid (Sp.own_below SP (new_block (.cells #[.int .i64 sz, .int .i64 (fn : Int), .slice a2 n c2] 30)))
    clear RW SP RW4 l3 l4 D w0 hle3
    go_wp2_with fail
    have CA := answer_any sz fn GD'.out RA.out SA.out (by omega) 256 (by omega)
    rw [show ((256 : Nat) : Int) = 256 from rfl] at CA
    refine CA.mono ?_
    clear CA
    rintro e w5 ⟨⟨rv, rfl, O1⟩, hb⟩
    have hb6 := (Array.getElem?_eq_some_iff.1 b6.out).1
    have P6 := Lib.hid ((hb.block _ hb6).trans b6.out)
    have R5 := Lib.hid (RA.out.below hb)
    have S5 := Lib.hid (Sp.own_below SA.out hb)
    have B5 := Lib.hid (BA.out.trans (hb.mono BA.out.size))
    have ht : (filt l fn n).take 256 = filt l fn n := List.take_of_length_le (Nat.le_trans (filt_len l fn n) hn256)
    rw [ht] at O1
    obtain ⟨aA, cA, rfl⟩ := ownI_shape O1
    replace O1 := Lib.hid O1
    clear hb ht RA SA BA b6 B4 hb6
    generalize w4.heap.size = be at *
    obtain ⟨q, hq, hq6⟩ : ∃ q : Nat, a1.tmod 6 = (q : Int) ∧ q < 6 := by
      rw [Int.tmod_eq_emod_of_nonneg hw1.1]
      exact ⟨(a1 % 6).toNat, by omega, by omega⟩
    have hq6' : (q : Int) < 6 := by omega
    have hw1a := hw1.1
    have hw1b := hw1.2
    obtain ⟨k0, k1, k2⟩ := cells3 P6.out
    have hF := filt_len l fn n
    go_wp2_with fail
    clear k0 k1 k2
    refine (answer_any sz fn GD'.out R5.out S5.out (by omega) q (by omega)).mono ?_
    rintro e wE ⟨⟨rv, rfl, O2⟩, hb⟩
    have hb6 := (Array.getElem?_eq_some_iff.1 P6.out).1
    obtain ⟨aS, cS, rfl⟩ := ownI_shape O2
    replace P6 := Lib.hid ((hb.block _ hb6).trans P6.out)
    replace R5 := Lib.hid (R5.out.below hb)
    replace S5 := Lib.hid (Sp.own_below S5.out hb)
    replace O1 := Lib.hid (Sp.own_below O1.out hb)
    have BW := Lib.hid (B5.out.trans (hb.mono B5.out.size))
    replace O2 := Lib.hid O2
    clear hb B5 hb6
    have GA := Lib.hid fun (k : Nat) (x : Int) (hk : (filt l fn n)[k]? = some x) w6 (hC : Below wE.heap.size wE w6) => ownI_get (Sp.own_below O1.out hC : OwnI w6 _ _ _) k x hk
    have GS := Lib.hid fun (k : Nat) (x : Int) (hk : ((filt l fn n).take q)[k]? = some x) w6 (hC : Below wE.heap.size wE w6) => ownI_get (Sp.own_below O2.out hC : OwnI w6 _ _ _) k x hk
    have PE := Lib.hid fun w6 (hC : Below wE.heap.size wE w6) => (hC.block _ (Array.getElem?_eq_some_iff.1 P6.out).1).trans P6.out
    have RE := Lib.hid fun w6 (hC : Below wE.heap.size wE w6) => R5.out.below hC
    have SE := Lib.hid fun w6 (hC : Below wE.heap.size wE w6) => (Sp.own_below S5.out hC : Sp.Spans w6 _ v l)
    obtain ⟨La, hLa⟩ : ∃ La, (filt l fn n).length = La := ⟨_, rfl⟩
    obtain ⟨Ls, hLs⟩ : ∃ Ls, ((filt l fn n).take q).length = Ls := ⟨_, rfl⟩
    have hmn : Ls = min q La := by rw [← hLs, ← hLa, List.length_take]
    have hmi : min (q : Int) (La : Int) = (Ls : Int) := by omega
    rw [hLa] at hF ⊢
    rw [hLs]
    replace GA := Lib.hid (show ∀ (k : Nat) (x : Int), (filt l fn n)[k]? = some x → ∀ w6, Below wE.heap.size wE w6 → ∃ g, aA = some ⟨g, 0, none⟩ ∧ La ≤ cA ∧ w6.cell? ⟨g, k, none⟩ = some (.int .i64 x) from fun k x h w6 hC => by have := GA.out k x h w6 hC; rwa [hLa] at this)
    replace GS := Lib.hid (show ∀ (k : Nat) (x : Int), ((filt l fn n).take q)[k]? = some x → ∀ w6, Below wE.heap.size wE w6 → ∃ g, aS = some ⟨g, 0, none⟩ ∧ Ls ≤ cS ∧ w6.cell? ⟨g, k, none⟩ = some (.int .i64 x) from fun k x h w6 hC => by have := GS.out k x h w6 hC; rwa [hLs] at this)
    clear O1 O2 P6 R5 S5
    have BC := Lib.hid (Below.refl wE.heap.size wE)
    replace hLa := Lib.hid hLa
    replace hLs := Lib.hid hLs
    replace hmn := Lib.hid hmn
    have hLs9 : Ls ≤ 256 := by have := hmn.out; omega
    have hLa9 : La ≤ 256 := by omega
    go_wp2_with fail
    go_loopw [62] (fun s62 wr => ∃ i : Nat, s62 = .int .i64 (i : Int) ∧ i ≤ Ls ∧ Hid (Below wE.heap.size wE wr)) (fun s62 _ => (Ls - intOf s62).toNat)
    case atStart => exact ⟨0, rfl, by omega, BC⟩
    case round =>
      clear BC
      obtain ⟨i, rfl, hi, BC⟩ := hrel
      by_cases hlt : i < Ls
      · have hlt' : (i : Int) < Ls := by omega
        have hlq : (i : Int) < La := by have := hmn.out; omega
        obtain ⟨x, hx⟩ : ∃ x, ((filt l fn n).take q)[i]? = some x := ⟨((filt l fn n).take q)[i]'(by rw [hLs.out]; exact hlt), List.getElem?_eq_getElem _⟩
        have hx' : (filt l fn n)[i]? = some x := by
          have hiq : i < q := by have := hmn.out; omega
          rwa [List.getElem?_take, if_pos hiq] at hx
        obtain ⟨gs, rfl, hcs, ks⟩ := GS.out i x hx _ BC.out
        obtain ⟨ga, rfl, hca, ka⟩ := GA.out i x hx' _ BC.out
        replace hx := Lib.hid hx
        replace hx' := Lib.hid hx'
        go_wp2_with fail
        go_quiet (fail)
        go_wp2_with fail
        go_roundw
        case rel => exact ⟨i + 1, by go_num, by omega, Lib.hid (Buf.below_drewN BC.out _)⟩
        case measure => simp [intOf]; omega
      · obtain rfl : i = Ls := by omega
        go_wp2_with fail
        clear hlt
        go_loopw [15, 14] (fun s15 s14 wr => ∃ i k : Nat, s15 = .int .i64 (i : Int) ∧ s14 = .int .i64 (k : Int) ∧ i ≤ fn + n ∧ k ≤ 256 ∧ Hid (k = (filt l fn (i - fn)).length) ∧ Hid (Below wE.heap.size wE wr)) (fun s15 _ _ => (fn + n - intOf s15).toNat)
        case atStart => exact ⟨0, 0, rfl, rfl, by omega, by omega, Lib.hid (by simp [filt]), BC⟩
        case round =>
          clear BC
          obtain ⟨i, k, rfl, rfl, hi, hk9, hk, BC⟩ := hrel
          obtain ⟨k0, k1, k2⟩ := cells3 (PE.out _ BC.out)
          go_wp2_with fail
          refine (Snd.next_any sz fn f0 (by omega) hn256).mono ?_
          rintro e w6 ⟨rfl, hb⟩
          clear k0 k1 k2
          replace BC := Lib.hid (BC.out.trans (hb.mono BC.out.size))
          clear hb
          by_cases hlt : i < fn + n
          · have hlt' : (i : Int) < (fn : Int) + n := by omega
            obtain ⟨k0, k1, k2⟩ := cells3 (PE.out _ BC.out)
            go_wp2_with fail
            refine (get_any sz fn i GD'.out (by omega) (by omega) (RE.out _ BC.out)).mono ?_
            rintro e w7 ⟨hgot, hb⟩
            clear k0 k1 k2
            replace BC := Lib.hid (BC.out.trans (hb.mono BC.out.size))
            clear hb
            rcases hgot with ⟨j, hj, hij, rfl⟩ | ⟨hno, rfl⟩
            · obtain rfl : i = fn + j := by omega
              have hsub : fn + j - fn = j := by omega
              rw [hsub] at hk
              have hsub1 : fn + j + 1 - fn = j + 1 := by omega
              go_wp2_with fail
              refine (Sp.has_any ((fn + j : Nat) : Int) (SE.out _ BC.out) (by omega)).mono ?_
              rintro e w8 ⟨rfl, hb⟩
              replace BC := Lib.hid (BC.out.trans (hb.mono BC.out.size))
              clear hb
              have hcast : ((fn + j : Nat) : Int) = (fn : Int) + j := by omega
              cases hh : Sp.hasB l ((fn + j : Nat) : Int) with
              | true =>
                have hh' := hh
                rw [hcast] at hh'
                have hat := filt_at hj hh'
                rw [← hk.out, ← hcast] at hat
                have hkL : k < La := by rw [← hLa.out]; exact (List.getElem?_eq_some_iff.1 hat).1
                have hkL' : (k : Int) < La := by omega
                have hk1 : Hid (k + 1 = (filt l fn (fn + j + 1 - fn)).length) := Lib.hid (by rw [hsub1, filt_yes l fn j hh', List.length_append, ← hk.out]; rfl)
                obtain ⟨ga, rfl, hca, ka⟩ := GA.out k _ hat _ BC.out
                replace hat := Lib.hid hat
                replace hh := Lib.hid hh
                replace hh' := Lib.hid hh'
                replace hcast := Lib.hid hcast
                clear hsub hsub1
                go_wp2_with fail
                go_roundw
                case rel => exact ⟨fn + j + 1, k + 1, by go_num, by go_num, by omega, by omega, hk1, BC⟩
                case measure => simp [intOf]; omega
              | false =>
                have hh' := hh
                rw [hcast] at hh'
                have hk1 : Hid (k = (filt l fn (fn + j + 1 - fn)).length) := Lib.hid (by rw [hsub1, filt_no l fn j hh']; exact hk.out)
                have hnx : ∀ x ∈ filt l fn n, x ≠ ((fn + j : Nat) : Int) := fun x hx e => by have := (filt_mem hx).2; rw [e, hh] at this; cases this
                replace hnx := Lib.hid hnx
                replace hh := Lib.hid hh
                replace hh' := Lib.hid hh'
                replace hcast := Lib.hid hcast
                clear hsub hsub1
                by_cases hkL : k < La
                · have hkL' : (k : Int) < La := by omega
                  obtain ⟨x, hx⟩ : ∃ x, (filt l fn n)[k]? = some x := ⟨(filt l fn n)[k]'(by rw [hLa.out]; exact hkL), List.getElem?_eq_getElem _⟩
                  have hne : (x == ((fn + j : Nat) : Int)) = false := by rw [beq_eq_false_iff_ne]; exact hnx.out x (List.mem_of_getElem? hx)
                  obtain ⟨ga, rfl, hca, ka⟩ := GA.out k x hx _ BC.out
                  replace hx := Lib.hid hx
                  go_wp2_with fail
                  go_roundw
                  case rel => exact ⟨fn + j + 1, k, by go_num, rfl, by omega, by omega, hk1, BC⟩
                  case measure => simp [intOf]; omega
                · have hkL' : (La : Int) ≤ k := by omega
                  go_wp2_with fail
                  go_roundw
                  case rel => exact ⟨fn + j + 1, k, by go_num, rfl, by omega, by omega, hk1, BC⟩
                  case measure => simp [intOf]; omega
            · have hif : i < fn := by omega
              have hk1 : Hid (k = (filt l fn (i + 1 - fn)).length) := Lib.hid (by rw [show i + 1 - fn = i - fn by omega]; exact hk.out)
              have hnx : Hid (∀ x ∈ filt l fn n, x ≠ (i : Int)) := Lib.hid (fun x hx e => by have := (filt_mem hx).1; omega)
              by_cases hkL : k < La
              · have hkL' : (k : Int) < La := by omega
                obtain ⟨x, hx⟩ : ∃ x, (filt l fn n)[k]? = some x := ⟨(filt l fn n)[k]'(by rw [hLa.out]; exact hkL), List.getElem?_eq_getElem _⟩
                have hne : (x == (i : Int)) = false := by rw [beq_eq_false_iff_ne]; exact hnx.out x (List.mem_of_getElem? hx)
                obtain ⟨ga, rfl, hca, ka⟩ := GA.out k x hx _ BC.out
                replace hx := Lib.hid hx
                go_wp2_with fail
                go_roundw
                case rel => exact ⟨i + 1, k, by go_num, rfl, by omega, by omega, hk1, BC⟩
                case measure => simp [intOf]; omega
              · have hkL' : (La : Int) ≤ k := by omega
                go_wp2_with fail
                go_roundw
                case rel => exact ⟨i + 1, k, by go_num, rfl, by omega, by omega, hk1, BC⟩
                case measure => simp [intOf]; omega
          · obtain rfl : i = fn + n := by omega
            have hkLa : k = La := by rw [hk.out, ← hLa.out]; congr 2; omega
            subst hkLa
            go_wp2_with (go_at_call 6; refine (Snd.sane_any _).mono ?_; rintro e w9 ⟨rfl, hb9⟩)
            go_ret
            exact ⟨rfl, BW.out.trans ((BC.out.trans (hb9.mono BC.out.size)).mono (by have := BW.out.size; omega))⟩
  · rw [decide_eq_false hl]
    go_wp2_with (go_at_call 6; refine (Snd.sane_any _).mono ?_; rintro e w5 ⟨rfl, hb⟩)
    go_ret
    exact ⟨rfl, hb⟩
end Laws
end Go.Proofs.Ytklggaaialngpaa
