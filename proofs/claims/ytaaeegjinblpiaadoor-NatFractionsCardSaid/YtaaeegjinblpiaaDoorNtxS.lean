/- The examples of the chapter (sane of law 17). -/
import Derived.Test.YtaaeegjinblpiaaDoorNtxV
import Derived.Test.YtaaeegjinblpiaaDoorNtxF
import Derived.Test.YtaaeegjinblpiaaDoorNtxY
set_option linter.unusedVariables false
set_option linter.unusedSimpArgs false
namespace Go.Proofs.YtaaeegjinblpiaaDoor
open Go.RowKit Dice Lib
namespace Nt
theorem sz1 (w : World) (o : Obj) : (w.alloc o).heap.size = w.heap.size + 1 := Array.size_push ..
theorem nr_new (w : World) (L : List Int) (o : Obj) (t : TypeId) (n : Nat) (hn : n = L.length) (ho : o = .cells (iv L).toArray t) (h : n ≤ 65) : Nr (w.alloc o) (some ⟨w.heap.size, 0, none⟩) n n L := by
  subst hn ho
  refine ⟨rfl, Nat.le_refl _, h, fun h0 => ⟨_, rfl, by rw [sz1]; omega, fun j x hx => ?_⟩⟩
  have hb := heap_alloc_new w (.cells (iv L).toArray t)
  refine (cell_of_row _ _ j _ _ _ hb).trans ?_
  simp [iv, hx]
theorem bel_drew {w w' : World} (h : ∃ m, w' = w.drewN m) : Below w.heap.size w w' := by
  obtain ⟨m, rfl⟩ := h
  exact Buf.below_drewN (Below.refl _ _) m
theorem Nr.left {W w w' : World} {g : Nat} {a : Option Addr} {len cap : Nat} {zs : List Int} {b : Option Addr} {n c : Nat} {L : List Int} (h : Nr w b n c L) (d : Di W w g a len cap zs) (l : Dice.Left W w w' g a len cap zs) : Nr w' b n c L :=
  ⟨h.len, h.nc, h.small, fun h0 => by
    obtain ⟨k, e, hk, hc⟩ := h.at_ h0
    refine ⟨k, e, Nat.lt_of_lt_of_le hk l.far.size, fun j x hx => ?_⟩
    refine (World.cell?_of_block (a := ⟨k, j, none⟩) (l.far.block k hk fun e2 => ?_)).trans (hc j x hx)
    obtain rfl : k = g := Option.some.inj e2
    obtain ⟨p, _, hb⟩ := d.blk
    have c0 := (Di.cells hb).1
    obtain ⟨y, hy⟩ : ∃ y, L[0]? = some y := ⟨L[0]'(by have := h.len; omega), List.getElem?_eq_getElem _⟩
    have c1 := hc 0 y hy
    rw [c0] at c1
    cases c1⟩
theorem nat8 {W w : World} {g : Nat} {a : Option Addr} {len cap : Nat} {zs : List Int} (h : Di W w g a len cap zs) :
    Calls Tryd.prog 15 #[.pointer (some ⟨g, 0, none⟩), .int .i64 8] w fun e w' => (∃ (a' : Option Addr) (n' c' : Nat) (L : List Int), e = .returned (.slice a' n' c') ∧ Nr w' a' n' c' L ∧ Limbs L ∧ n' ≤ 8) ∧ Dice.Left W w w' g a len cap zs := nat_any 8 h (by omega)
theorem two60 : (vl [0, 0, 1]) = 1152921504606846976 := by decide
theorem lim60 : Limbs [0, 0, 1] := ⟨by decide, fun x hx => by simp at hx; omega⟩
theorem lim30 : Limbs [0, 1] := ⟨by decide, fun x hx => by simp at hx; omega⟩
theorem txt60 : decDigits 1152921504606846976 = [49, 49, 53, 50, 57, 50, 49, 53, 48, 52, 54, 48, 54, 56, 52, 54, 57, 55, 54] := by decide +kernel
theorem rd60 : rd [49, 49, 53, 50, 57, 50, 49, 53, 48, 52, 54, 48, 54, 56, 52, 54, 57, 55, 54] = [0, 0, 1] := by
  have h := rd_dec lim60
  rw [two60] at h
  have e : (1152921504606846976 : Int).toNat = 1152921504606846976 := rfl
  rw [e, txt60] at h
  exact h
set_option maxHeartbeats 4000000 in
set_option maxRecDepth 100000 in
theorem sane_any (w : World) (hT : Tab w) (T : ∀ w w', Tab w → Below w.heap.size w w' → Tab w') :
    Calls Tryd.prog 12 #[] w fun e w' => e = .returned (.bool true) ∧ Below w.heap.size w w' := by
  have hdg : Digs [49, 49, 53, 50, 57, 50, 49, 53, 48, 52, 54, 48, 54, 56, 52, 54, 57, 55, 54] := by rw [← txt60]; exact dec_digs _
  have PA := Lib.hid (parse_any [49, 49, 53, 50, 57, 50, 49, 53, 48, 52, 54, 48, 54, 56, 52, 54, 57, 55, 54] 19 rfl (by omega) (by omega) hdg (.inr fun c hc => by simp at hc; subst hc; decide) (fun i => Nat.le_trans (rd_take _ hdg i) (by rw [rd60]; decide)) w)
  have hnd : nDigits (vl [0, 0, 1]).toNat ≤ 1000 := by rw [← decDigits_length, two60]; show (decDigits 1152921504606846976).length ≤ 1000; rw [txt60]; decide
  rw [rd60] at PA
  clear hdg
  go_enter Tryd.func12, Tryd.ntmps12
  go_wp2_with fail
  refine PA.out.mono ?_
  rintro e w1 ⟨⟨v, rfl, ho⟩, b1⟩
  obtain ⟨a, n, c, rfl, N1⟩ := nr_own ho (by decide)
  have T1 := T _ _ hT b1
  clear ho PA
  have T2 := T _ _ T1 (new_block (.cells #[.int .i64 0, .int .i64 0, .int .i64 1] 3))
  have X := nr_new w1 [0, 0, 1] (.cells #[.int .i64 0, .int .i64 0, .int .i64 1] 3) 3 3 rfl rfl (by omega)
  have TX := Lib.hid (text_any X lim60 (by omega) T2 T hnd)
  have e60 : (decDigits (vl [0, 0, 1]).toNat) = [49, 49, 53, 50, 57, 50, 49, 53, 48, 52, 54, 48, 54, 56, 52, 54, 57, 55, 54] := by rw [two60]; exact txt60
  rw [e60] at TX
  replace N1 := Lib.hid (N1.below (new_block (.cells #[.int .i64 0, .int .i64 0, .int .i64 1] 3)))
  replace T2 := Lib.hid T2
  replace b1 := Lib.hid b1
  have b2 := Lib.hid (new_block (w := w1) (.cells #[.int .i64 0, .int .i64 0, .int .i64 1] 3))
  clear X T1 e60 hnd
  go_wp2_with fail
  refine TX.out.mono ?_
  rintro e w2 ⟨rfl, b3⟩
  have N2 := Lib.hid (N1.out.below b3)
  have B3 := Lib.hid b3
  have FR := Lib.hid (from_any 1073741824 w2 (by omega) (by omega))
  clear TX N1 T2 b3
  go_wp2_with fail
  refine FR.out.mono ?_
  rintro e w3 ⟨⟨a3, n3, c3, L3, rfl, N3, L3l, L3v, h3⟩, b4⟩
  obtain rfl : L3 = [0, 1] := limbs_inj _ _ L3l lim30 (by rw [L3v]; decide)
  have N4 := N2.out.below b4
  have BW := Lib.hid (Buf.then_ b1.out (Buf.then_ b2.out (Buf.then_ B3.out b4)))
  clear FR N2 b4 b1 b2 B3 L3l L3v
  have b5 := Lib.hid (new_block (w := w3) (.cells #[.int .i64 0, .int .i64 0, .int .i64 1] 3))
  have X := nr_new w3 [0, 0, 1] (.cells #[.int .i64 0, .int .i64 0, .int .i64 1] 3) 3 3 rfl rfl (by omega)
  have hn : n = 3 := N4.len
  subst hn
  have S1 := Lib.hid (same_any (N4.below b5.out) X)
  have N5 := Lib.hid (N3.below b5.out)
  clear X N3 N4
  go_wp2_with fail
  refine S1.out.mono ?_
  rintro e w4 ⟨rfl, hm⟩
  have b6 := Lib.hid (bel_drew hm)
  have b7 := Lib.hid (new_block (w := w4) (.cells #[.int .i64 0, .int .i64 1] 3))
  have X := nr_new w4 [0, 1] (.cells #[.int .i64 0, .int .i64 1] 3) 3 2 rfl rfl (by omega)
  have hn : n3 = 2 := N5.out.len
  subst hn
  have S2 := Lib.hid (same_any ((N5.out.below b6.out).below b7.out) X)
  clear X S1 N5 hm
  go_wp2_with fail
  refine S2.out.mono ?_
  rintro e w5 ⟨rfl, hm⟩
  have b8 := Lib.hid (bel_drew hm)
  clear hm S2
  go_wp2_with fail
  go_ret
  exact ⟨rfl, Buf.then_ BW.out (Buf.then_ b5.out (Buf.then_ b6.out (Buf.then_ b7.out b8.out)))⟩
end Nt
end Go.Proofs.YtaaeegjinblpiaaDoor
