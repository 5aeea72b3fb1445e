/- The walk of SenderExact. -/
import Derived.Test.YtganalieljmkmaaSxE
import Derived.Test.YtganalieljmkmaaSxF
import Derived.Test.YtganalieljmkmaaInv
import Derived.Test.YtganalieljmkmaaSndE
import Derived.Test.YtganalieljmkmaaSndS
import Derived.RegionTactic
import Derived.Deep.RegionHeld3
import Derived.Deep.CutBlock
set_option linter.unusedVariables false
set_option linter.unusedSimpArgs false
namespace Go.Proofs.Ytganalieljmkmaa
open Go.RowKit Dice
namespace Laws
open Sx
open Snd (cells3 free3 filt OwnI)
/-- A sender of the law: not in the dice's block d. -/
structure Sen (d : Nat) (w : World) (v : Value) (S : LS) : Prop where
  its : Stw w v S
  len : S.length ≤ 300
  ne : S ≠ [] → v.ownBlock ≠ some d
theorem Sen.keep {d : Nat} {w w' : World} {v : Value} {L : LS} (h : Sen d w v L) (hb : Below w.heap.size w w') : Sen d w' v L := ⟨h.its.keep hb, h.len, h.ne⟩
theorem Sen.left {W w w' : World} {d : Nat} {a : Option Addr} {len cap : Nat} {zs : List Int} {v : Value} {L : LS} (h : Sen d w v L) (hl : Dice.Left W w w' d a len cap zs) : Sen d w' v L :=
  ⟨h.its.far hl.far h.ne, h.len, h.ne⟩
structure Lis (d : Nat) (w : World) (v : Value) (L : LP) : Prop where
  its : Spw w v L
  len : L.length ≤ 20
  ne : L ≠ [] → v.ownBlock ≠ some d
theorem Lis.keep {d : Nat} {w w' : World} {v : Value} {L : LP} (h : Lis d w v L) (hb : Below w.heap.size w w') : Lis d w' v L := ⟨h.its.keep hb, h.len, h.ne⟩
theorem Lis.left {W w w' : World} {d : Nat} {a : Option Addr} {len cap : Nat} {zs : List Int} {v : Value} {L : LP} (h : Lis d w v L) (hl : Dice.Left W w w' d a len cap zs) : Lis d w' v L :=
  ⟨h.its.far hl.far h.ne, h.len, h.ne⟩
/-- The memory of the outer loop. -/
structure MX (W : World) (d : Nat) (a : Option Addr) (len cap : Nat) (zs : List Int) (bP : Nat) (z1 f1 z2 f2 z3 f3 : Int) (v1 v2 v3 vl : Value) (S1 S2 S3 : LS) (L : LP) (wr : World) : Prop where
  di : Di W wr d a len cap zs
  a1 : Sen d wr v1 S1
  a2 : Sen d wr v2 S2
  a3 : Sen d wr v3 S3
  l : Lis d wr vl L
  P : wr.heap[bP]? = some (.cells #[.int .i64 z1, .int .i64 f1, v1, .int .i64 z2, .int .i64 f2, v2, .int .i64 z3, .int .i64 f3, v3] 25 (0, 0))
  ne : bP ≠ d
section
variable {W : World} {d : Nat} {a : Option Addr} {len cap : Nat} {zs : List Int} {bP : Nat} {z1 f1 z2 f2 z3 f3 : Int} {v1 v2 v3 vl : Value} {S1 S2 S3 : LS} {L : LP} {wr w' : World}
theorem MX.below (o : MX W d a len cap zs bP z1 f1 z2 f2 z3 f3 v1 v2 v3 vl S1 S2 S3 L wr) (hb : Below wr.heap.size wr w') : MX W d a len cap zs bP z1 f1 z2 f2 z3 f3 v1 v2 v3 vl S1 S2 S3 L w' :=
  ⟨o.di.below hb, o.a1.keep hb, o.a2.keep hb, o.a3.keep hb, o.l.keep hb, hop3 hb o.P, o.ne⟩
theorem MX.left (o : MX W d a len cap zs bP z1 f1 z2 f2 z3 f3 v1 v2 v3 vl S1 S2 S3 L wr) (hl : Dice.Left W wr w' d a len cap zs) : MX W d a len cap zs bP z1 f1 z2 f2 z3 f3 v1 v2 v3 vl S1 S2 S3 L w' :=
  ⟨hl.di, o.a1.left hl, o.a2.left hl, o.a3.left hl, o.l.left hl, (hl.far.block bP (Array.getElem?_eq_some_iff.1 o.P).1 (by have := o.ne; simpa using this)).trans o.P, o.ne⟩
end
theorem row_keep {w w' : World} {a : Option Addr} {len cap : Nat} {zs : List Int} (h : Buf.IsRow .i64 w a len cap zs) (hb : Below w.heap.size w w') : Buf.IsRow .i64 w' a len cap zs := by
  rcases h with h | ⟨x, e, h1, h2, h3, h4, h5⟩
  · exact .inl h
  · exact .inr ⟨x, e, h1, h2, h3, fun i hi => by
      have h := h4 i hi
      exact (hb.cell (Nat.lt_of_not_le fun hh => by unfold World.cell? at h; rw [Array.getElem?_eq_none hh] at h; cases h)).trans h, h5⟩
/-- The dice's block holds no string. -/
theorem sen_apart {W w : World} {d : Nat} {a : Option Addr} {len cap : Nat} {zs : List Int} {B : Nat} {x : Option Addr} {n c : Nat} {S : LS} (h : Snd.Row B w x n c S) (hd : d < B) : S ≠ [] → (Value.slice x n c).ownBlock ≠ some d := by
  intro hS e
  obtain ⟨hn, h⟩ := h
  rcases h with ⟨rfl, h0, _⟩ | ⟨g, off, rfl, _, _, hB, _, _⟩
  · simp [Value.ownBlock] at e
  · have : g = d := by simpa [Value.ownBlock] using e
    omega
theorem ints_at {w : World} {B : Nat} {a : Option Addr} {c : Nat} {M : List Int} (h : OwnI w B (.slice a M.length c) M) : ∀ (t : Nat) (z : Int), M[t]? = some z → ∃ (g c_ : Nat), a = some ⟨g, 0, none⟩ ∧ g < w.heap.size ∧ w.cell? ⟨g, t, none⟩ = some (.int .i64 z) := by
  intro t z hz
  have hc := fun g => World.ownsRow.cells (g := g) h
  rcases h.2 with ⟨e, h0⟩ | ⟨g, cap, cur, e, hb, hg, h1, h2, _⟩
  · rw [List.length_eq_zero_iff.1 h0] at hz; cases hz
  · injection e with e1 e2 e3
    subst e1
    refine ⟨g, 0, rfl, (Array.getElem?_eq_some_iff.1 hg).1, ?_⟩
    have := hc g rfl t (.int .i64 z) (by unfold Snd.cellsI; rw [List.getElem?_map, hz]; rfl)
    rwa [show (⟨g, 0, none⟩ : Addr).add t = ⟨g, t, none⟩ by unfold Addr.add; split <;> simp_all] at this
theorem ows_form {w : World} {B : Nat} {v : Value} {S : LS} (h : OwS w B v S) : ∃ a n c, v = .slice a n c := by
  obtain ⟨a, c, e⟩ := h.form
  exact ⟨a, _, c, e⟩
theorem spans_apart {W w : World} {d : Nat} {a : Option Addr} {len cap : Nat} {zs : List Int} {B : Nat} {v : Value} {L : LP} (h : Sp.Spans w B v L) (hd : Di W w d a len cap zs) : L ≠ [] → v.ownBlock ≠ some d := by
  obtain ⟨p, _, hb⟩ := hd.blk
  exact fun _ => Sp.own_ne h hb (by decide)
set_option tactic.hygienic false in
set_option maxHeartbeats 16000000 in
set_option maxRecDepth 100000 in
theorem senderExact_walk (a0 : Option Addr) (len0 cap0 : Nat) (z0 : List Int) (rz rf : Int) (vs : Value) (RS : LS) (ba : ByteArray) (vl : Value) (RL : LP) (aseq asz amo : Int) (w : World) (w0 : Buf.IsRow .i64 w a0 len0 cap0 z0) (p1 : (Lit.int .i64 rz).wf = true) (q1 : (Lit.int .i64 rf).wf = true) (hs1 : Stw w vs RS) (wsz : ba.size ≤ 140737488351232) (hl1 : Spw w vl RL) (w2 : (Lit.int .i64 aseq).wf = true) (w3 : (Lit.int .i64 asz).wf = true) (w4 : (Lit.int .i64 amo).wf = true) :
    Calls Try.prog 3 #[.slice a0 len0 cap0, .agg #[.int .i64 rz, .int .i64 rf, vs], .string ba, vl, .int .i64 aseq, .int .i64 asz, .int .i64 amo] w fun e w' => e = .returned (.bool true) ∧ Below w.heap.size w w' := by
  have SN := Lib.hid Snd.sane_any
  obtain ⟨xa, xc, hv, _⟩ := id hs1
  subst hv
  obtain ⟨ya, yc, hv, _⟩ := id hl1
  subst hv
  obtain ⟨xn, hxn⟩ : ∃ xn, xn = RS.length := ⟨_, rfl⟩
  rw [← hxn] at hs1 ⊢
  replace hxn := Lib.hid hxn
  obtain ⟨yn, hyn⟩ : ∃ yn, yn = RL.length := ⟨_, rfl⟩
  rw [← hyn] at hl1 ⊢
  replace hyn := Lib.hid hyn
  have R0 := Lib.hid hs1
  have R1 := Lib.hid hl1
  obtain ⟨bn, hbn⟩ : ∃ bn, bn = ba.size := ⟨_, rfl⟩
  replace wsz := Lib.hid wsz
  replace hbn := Lib.hid hbn
  clear hs1 hl1 w2 w3 w4 p1 q1
  go_enter Try.func3, Try.ntmps3
  obtain ⟨wb, hwb⟩ : ∃ wb, wb = w.alloc (.cells #[.int .i64 rz, .int .i64 rf, .slice xa xn xc] 25) := ⟨_, rfl⟩
  obtain ⟨b8, hb8⟩ : ∃ b8, b8 = w.heap.size := ⟨_, rfl⟩
  have B0 := Lib.hid (show Below w.heap.size w wb by rw [hwb]; exact new_block _)
  have P8 := Lib.hid (show wb.heap[b8]? = some (.cells #[.int .i64 rz, .int .i64 rf, .slice xa xn xc] 25 (0, 0)) by rw [hwb, hb8]; exact heap_alloc_new w _)
  go_upto_region 1 with fail
  rw [← hwb, ← hb8]
  have hb8' : b8 < wb.heap.size := (Array.getElem?_eq_some_iff.1 P8.out).1
  clear hwb hb8
  obtain ⟨k0, k1, k2⟩ := cells3 P8.out
  by_cases hs : len0 ≤ 500
  · have hd : decide ((len0 : Int) ≤ 500) = true := by simp; omega
    by_cases hr : xn ≤ 40
    · have hd2 : decide ((40 : Int) < (xn : Int)) = false := decide_eq_false (by omega)
      by_cases hr2 : ba.size ≤ 300
      · have hd3 : decide ((300 : Int) < (ba.size : Int)) = false := decide_eq_false (by omega)
        by_cases hr3 : yn ≤ 20
        · have hd4 : decide ((20 : Int) < (yn : Int)) = false := decide_eq_false (by omega)
          go_upto_region 3 with (go_at_call 6; refine (light_any _ _ _ _).mono ?_; rintro e w1 ⟨rfl, hw⟩; replace hw := hw.symm; subst hw; rw [hd])
          go_wp2_with fail
          refine (roll_any a0 len0 cap0 z0 _ (row_keep w0 B0.out) hs).mono ?_
          rintro e wd ⟨rfl, hdi⟩
          obtain ⟨d, hdd⟩ : ∃ d, d = wb.heap.size := ⟨_, rfl⟩
          rw [← hdd] at hdi hb8' ⊢
          have R2 := Lib.hid (R0.out.keep B0.out)
          have R3 := Lib.hid (R1.out.keep B0.out)
          have XL := Lib.hid (show Sen d wd (.slice xa xn xc) RS from ⟨(R2.out).keep hdi.bel, by have := hxn.out; omega, Stw.apart R2.out (Nat.le_of_eq hdd.symm)⟩)
          have YL := Lib.hid (show Lis d wd (.slice ya yn yc) RL from ⟨(R3.out).keep hdi.bel, by have := hyn.out; omega, Spw.apart R3.out (Nat.le_of_eq hdd.symm)⟩)
          have P8d := Lib.hid (hop3 hdi.bel P8.out)
          replace hdd := Lib.hid hdd
          have HBA := Lib.hid hr2
          clear hd2 hd3 hd4 k0 k1 k2 R0 R1 R2 R3 hr hr2 hr3 hd right right_1
          go_wp2_with fail
          refine (Snd.sender_any hdi).mono ?_
          rintro e w3 ⟨⟨sz, sf, sa, sn, sc, S1, rfl, GD, sf9, SR⟩, hl⟩
          have D3 := Lib.hid hl.di
          replace XL := Lib.hid (XL.out.left hl)
          replace YL := Lib.hid (YL.out.left hl)
          replace P8d := Lib.hid ((hl.far.block b8 (Array.getElem?_eq_some_iff.1 P8d.out).1 (by have := hb8'; simp; omega)).trans P8d.out)
          have ln := SR.1
          have A1 := Lib.hid (show Sen d w3 (.slice sa sn sc) S1 from ⟨stw_of_row SR, by have := GD.le; have := GD.s2; omega, sen_apart (W := wb) (a := a0) (len := len0) (cap := cap0) (zs := z0) SR hdi.lt⟩)
          have hsn : sn ≤ 256 := by have := GD.le; have := GD.s2; omega
          clear ln GD hl hdi SR
          obtain ⟨wv, hwv⟩ : ∃ wv, wv = (w3.alloc (.cells #[.int .i64 sz, .int .i64 sf, .slice sa sn sc] 25)).alloc (.cells #[.int .i64 sz, .int .i64 sf, .slice sa sn sc] 25) := ⟨_, rfl⟩
          obtain ⟨b16, hb16⟩ : ∃ b16, b16 = w3.heap.size := ⟨_, rfl⟩
          obtain ⟨b17, hb17⟩ : ∃ b17, b17 = w3.heap.size + 1 := ⟨_, rfl⟩
          have BV : Below w3.heap.size w3 wv := by rw [hwv]; exact Buf.then_ (new_block _) (new_block _)
          have P16 := Lib.hid (show wv.heap[b16]? = some (.cells #[.int .i64 sz, .int .i64 sf, .slice sa sn sc] 25 (0, 0)) by rw [hwv, hb16]; exact Snd.two_old _ _ _)
          have P17 := Lib.hid (show wv.heap[b17]? = some (.cells #[.int .i64 sz, .int .i64 sf, .slice sa sn sc] 25 (0, 0)) by rw [hwv, hb17]; exact Snd.two_new _ _ _)
          have n16 : b16 ≠ d := by have := D3.out.lt; omega
          have n17 : b17 ≠ d := by have := D3.out.lt; omega
          have n67 : b16 ≠ b17 := by omega
          have LE := Lib.hid (show w3.heap.size ≤ b17 by omega)
          have LV := Lib.hid ((Dice.Left.refl D3.out).below BV)
          obtain ⟨w0x, hw0x⟩ : ∃ w0x, w0x = w3 := ⟨_, rfl⟩
          go_upto_region 6 with fail
          rw [← hwv, ← hb16]
          rw [show b16 + 1 = b17 by omega]
          clear hwv hb16 hb17 BV
          rw [← hw0x] at D3 XL YL A1 P8d LE LV
          clear hw0x
          have D0 := D3
          go_upto_block 0 with (go_at_call 10; refine (next_any 4 LV.out.di (by omega) (by omega)).mono ?_; rintro e w5 ⟨⟨y, rfl, y0, y9⟩, hl⟩)
          replace P16 := Lib.hid ((hl.far.block b16 (Array.getElem?_eq_some_iff.1 P16.out).1 (by simpa using n16)).trans P16.out)
          replace P17 := Lib.hid ((hl.far.block b17 (Array.getElem?_eq_some_iff.1 P17.out).1 (by simpa using n17)).trans P17.out)
          have L5 := Lib.hid (LV.out.trans hl)
          clear hl LV D3
          go_cut [72] from 73 to 102 (fun s72 wx => ∃ (oz of_ : Int) (oa : Option Addr) (on oc : Nat) (OS : LS), Hid (Di wb wx d a0 len0 cap0 z0) ∧ Hid (Sen d wx (.slice sa sn sc) S1) ∧ Hid (Sen d wx (.slice xa xn xc) RS) ∧ Hid (Lis d wx (.slice ya yn yc) RL) ∧ Hid (wx.heap[b8]? = some (.cells #[.int .i64 rz, .int .i64 rf, .slice xa xn xc] 25 (0, 0))) ∧ Hid (wx.heap[b16]? = some (.cells #[.int .i64 sz, .int .i64 sf, .slice sa sn sc] 25 (0, 0))) ∧ Hid (wx.heap[b17]? = some (.cells #[.int .i64 oz, .int .i64 of_, .slice oa on oc] 25 (0, 0))) ∧ Hid (Sen d wx (.slice oa on oc) OS))
          case first =>
            have FIN : Hid (∀ w7, Dice.Left wb w0x w7 d a0 len0 cap0 z0 → Hid (Di wb w7 d a0 len0 cap0 z0) ∧ Hid (Sen d w7 (.slice sa sn sc) S1) ∧ Hid (Sen d w7 (.slice xa xn xc) RS) ∧ Hid (Lis d w7 (.slice ya yn yc) RL) ∧ Hid (w7.heap[b8]? = some (.cells #[.int .i64 rz, .int .i64 rf, .slice xa xn xc] 25 (0, 0)))) := Lib.hid fun w7 L7 =>
              ⟨Lib.hid L7.di, Lib.hid (A1.out.left L7), Lib.hid (XL.out.left L7), Lib.hid (YL.out.left L7), Lib.hid ((L7.far.block b8 (Array.getElem?_eq_some_iff.1 P8d.out).1 (by simp; omega)).trans P8d.out)⟩
            rcases (show y = 0 ∨ y = 1 ∨ y = 2 ∨ y = 3 by omega) with rfl | rfl | rfl | rfl
            · have I1 : Hid (Dice.Ints (w5.alloc (.cells #[.int .i64 0, .int .i64 1, .int .i64 256, .int .i64 257] 3)) w5.heap.size [0, 1, 256, 257]) := Lib.hid (by simpa using Dice.ints_alloc w5 [0, 1, 256, 257] 3)
              have hlt5 := L5.out.di.lt
              go_wp2_with (go_at_call 11; refine (Dice.pick_any w5.heap.size [0, 1, 256, 257] 4 4 (L5.out.di.below (new_block _)) I1.out rfl (by omega) (by omega) (by omega) (by simp)).mono ?_; rintro e w6 ⟨⟨z, rfl, hz⟩, hl⟩; have P17y := (hl.far.block b17 (Array.getElem?_eq_some_iff.1 (hop3 (new_block (.cells #[.int .i64 0, .int .i64 1, .int .i64 256, .int .i64 257] 3)) P17.out)).1 (by simpa using n17)).trans (hop3 (new_block (.cells #[.int .i64 0, .int .i64 1, .int .i64 256, .int .i64 257] 3)) P17.out); have P16y := (hl.far.block b16 (Array.getElem?_eq_some_iff.1 (hop3 (new_block (.cells #[.int .i64 0, .int .i64 1, .int .i64 256, .int .i64 257] 3)) P16.out)).1 (by simpa using n16)).trans (hop3 (new_block (.cells #[.int .i64 0, .int .i64 1, .int .i64 256, .int .i64 257] 3)) P16.out); obtain ⟨k0, k1, k2⟩ := cells3 P17y; obtain ⟨f0, f1, f2⟩ := free3 P17y)
              have L6 := (L5.out.below (new_block (.cells #[.int .i64 0, .int .i64 1, .int .i64 256, .int .i64 257] 3))).trans hl
              have L7 := Dice.Left.past D0.out L6 ((Below.refl w0x.heap.size w6).setCell (p := ⟨b17, 0, none⟩) LE.out (.int .i64 z))
              obtain ⟨z1, z2, z3, z4, z5⟩ := FIN.out _ L7
              go_meet
              exact ⟨z, sf, sa, sn, sc, S1, z1, z2, z3, z4, z5, Lib.hid ((Below.heap_setCell w6 _ _ b16 n67).trans P16y), Lib.hid ((heap_setCell_same w6 b17 0 _ _ (.int .i64 z) P17y).trans rfl), z2⟩
            · have I1 : Hid (Dice.Ints (w5.alloc (.cells #[.int .i64 (-1), .int .i64 1073741824, .int .i64 1073741825, .int .i64 1073741821] 3)) w5.heap.size [-1, 1073741824, 1073741825, 1073741821]) := Lib.hid (by simpa using Dice.ints_alloc w5 [-1, 1073741824, 1073741825, 1073741821] 3)
              have hlt5 := L5.out.di.lt
              go_wp2_with (go_at_call 11; refine (Dice.pick_any w5.heap.size [-1, 1073741824, 1073741825, 1073741821] 4 4 (L5.out.di.below (new_block _)) I1.out rfl (by omega) (by omega) (by omega) (by simp)).mono ?_; rintro e w6 ⟨⟨z, rfl, hz⟩, hl⟩; have P17y := (hl.far.block b17 (Array.getElem?_eq_some_iff.1 (hop3 (new_block (.cells #[.int .i64 (-1), .int .i64 1073741824, .int .i64 1073741825, .int .i64 1073741821] 3)) P17.out)).1 (by simpa using n17)).trans (hop3 (new_block (.cells #[.int .i64 (-1), .int .i64 1073741824, .int .i64 1073741825, .int .i64 1073741821] 3)) P17.out); have P16y := (hl.far.block b16 (Array.getElem?_eq_some_iff.1 (hop3 (new_block (.cells #[.int .i64 (-1), .int .i64 1073741824, .int .i64 1073741825, .int .i64 1073741821] 3)) P16.out)).1 (by simpa using n16)).trans (hop3 (new_block (.cells #[.int .i64 (-1), .int .i64 1073741824, .int .i64 1073741825, .int .i64 1073741821] 3)) P16.out); obtain ⟨k0, k1, k2⟩ := cells3 P17y; obtain ⟨f0, f1, f2⟩ := free3 P17y)
              have L6 := (L5.out.below (new_block (.cells #[.int .i64 (-1), .int .i64 1073741824, .int .i64 1073741825, .int .i64 1073741821] 3))).trans hl
              have L7 := Dice.Left.past D0.out L6 ((Below.refl w0x.heap.size w6).setCell (p := ⟨b17, 1, none⟩) LE.out (.int .i64 z))
              obtain ⟨z1, z2, z3, z4, z5⟩ := FIN.out _ L7
              go_meet
              exact ⟨sz, z, sa, sn, sc, S1, z1, z2, z3, z4, z5, Lib.hid ((Below.heap_setCell w6 _ _ b16 n67).trans P16y), Lib.hid ((heap_setCell_same w6 b17 1 _ _ (.int .i64 z) P17y).trans rfl), z2⟩
            · go_upto_region 12 with fail
              obtain ⟨N5, hN5⟩ : ∃ N5, N5 = w5.heap.size := ⟨_, rfl⟩
              have HN5 := Lib.hid hN5
              clear hN5
              have A5 := Lib.hid fun wx (hb : Below w5.heap.size w5 wx) => (A1.out.left (L5.out.below hb)).its
              have hw0 : Below w5.heap.size w5 w5.drew := (Below.refl _ _).drew
              refine wp_region_noPanic ?_
              refine wp_region_any (by kernel_rfl) ?_
              refine Inv.wpAny_inv (fun k => k == 8 || k == 9 || k == 10) [86, 87, 88, 89, 90, 91, 92, 93] (fun w' => Below w5.heap.size w5 w') (fun _ w1 w2 => Below w1.heap.size w1 w2) (fun k => ([fun v_ w_ => v_ = .pointer (some ⟨b17, 2, none⟩), fun v_ w_ => v_ = .slice sa sn sc, fun v_ w_ => v_ = .int .i64 (sn : Int), fun v_ w_ => v_ = .int .i64 (1073741825 - (sn : Int)), fun v_ w_ => v_ = .pointer (some ⟨b17, 2, none⟩), fun v_ w_ => v_ = .slice sa sn sc, fun v_ w_ => ∃ a n c, v_ = .slice a n c ∧ OwS w_ N5 (.slice a n c) S1, fun v_ w_ => v_ = .pointer (some ⟨b17, 1, none⟩), fun v_ w_ => True, fun v_ w_ => True, fun v_ w_ => True] : List (Value → World → Prop)).getD k (fun _ _ => True)) _ (fun σ => by simp only [Inv.putAll, List.foldl_cons, List.foldl_nil, Act.put, List.setIfInBounds_toArray, List.set_cons_zero, List.set_cons_succ]; rfl) (by kernel_rfl) (by kernel_rfl) ?_ hw0 ?_ ?_ 3 #[true, true, true, true, true, true, true, true, false, false, false] (by kernel_rfl) (by kernel_rfl) ?_
              · intro j k v w1 w2 hjk hv hr
                rcases k with _ | k
                · exact hv
                rcases k with _ | k
                · exact hv
                rcases k with _ | k
                · exact hv
                rcases k with _ | k
                · exact hv
                rcases k with _ | k
                · exact hv
                rcases k with _ | k
                · exact hv
                rcases k with _ | k
                · exact by obtain ⟨a, n, c, e, h⟩ := hv; exact ⟨a, n, c, e, Sp.own_below h hr⟩
                rcases k with _ | k
                · exact hv
                rcases k with _ | k
                · exact hv
                rcases k with _ | k
                · exact hv
                rcases k with _ | k
                · exact hv
                · exact hv
              · intro k t hl hd
                rcases k with _ | k
                · exact absurd hl (by decide +kernel)
                rcases k with _ | k
                · exact absurd hl (by decide +kernel)
                rcases k with _ | k
                · exact absurd hl (by decide +kernel)
                rcases k with _ | k
                · exact absurd hl (by decide +kernel)
                rcases k with _ | k
                · exact absurd hl (by decide +kernel)
                rcases k with _ | k
                · exact absurd hl (by decide +kernel)
                rcases k with _ | k
                · exact absurd hl (by decide +kernel)
                rcases k with _ | k
                · exact absurd hl (by decide +kernel)
                rcases k with _ | k
                · exact absurd hl (by decide +kernel)
                rcases k with _ | k
                · exact absurd hl (by decide +kernel)
                rcases k with _ | k
                · exact absurd hl (by decide +kernel)
                · simp at hd
              · show Inv.Steps _ _ _ _ _ _ _ _ [0, 1, 2, 3, 4, 5, 6, 7]
                refine Inv.Steps.go (by decide) (by rfl) (fun σ wx hw hd K hK => ?_) ?_
                · simp only [List.getElem_toArray, List.getElem_cons_zero, List.getElem_cons_succ, Act.put, List.setIfInBounds_toArray, List.set_cons_zero, List.set_cons_succ] at hK ⊢
                  go_simp
                  exact hK.out _ _ hw (Below.refl _ _) (rfl)
                refine Inv.Steps.go (by decide) (by rfl) (fun σ wx hw hd K hK => ?_) ?_
                · obtain e86 : (σ 86) = .pointer (some ⟨b17, 2, none⟩) := hd 0 (some 86) (by kernel_rfl) (by rfl)
                  simp only [List.getElem_toArray, List.getElem_cons_zero, List.getElem_cons_succ, Act.put, List.setIfInBounds_toArray, List.set_cons_zero, List.set_cons_succ, e86] at hK ⊢
                  obtain ⟨k0, k1, k2⟩ := cells3 (hop3 hw P17.out)
                  go_simp
                  exact hK.out _ _ hw (Below.refl _ _) (rfl)
                refine Inv.Steps.go (by decide) (by rfl) (fun σ wx hw hd K hK => ?_) ?_
                · obtain e87 : (σ 87) = .slice sa sn sc := hd 1 (some 87) (by kernel_rfl) (by rfl)
                  simp only [List.getElem_toArray, List.getElem_cons_zero, List.getElem_cons_succ, Act.put, List.setIfInBounds_toArray, List.set_cons_zero, List.set_cons_succ, e87] at hK ⊢
                  go_simp
                  exact hK.out _ _ hw (Below.refl _ _) (rfl)
                refine Inv.Steps.go (by decide) (by rfl) (fun σ wx hw hd K hK => ?_) ?_
                · obtain e88 : (σ 88) = .int .i64 (sn : Int) := hd 2 (some 88) (by kernel_rfl) (by rfl)
                  simp only [List.getElem_toArray, List.getElem_cons_zero, List.getElem_cons_succ, Act.put, List.setIfInBounds_toArray, List.set_cons_zero, List.set_cons_succ, e88] at hK ⊢
                  have ws : IntKind.i64.wrap (1073741825 - (sn : Int)) = 1073741825 - (sn : Int) := IntWalk.i64_in _ (by omega)
                  go_simp
                  exact hK.out _ _ hw (Below.refl _ _) (rfl)
                refine Inv.Steps.go (by decide) (by rfl) (fun σ wx hw hd K hK => ?_) ?_
                · simp only [List.getElem_toArray, List.getElem_cons_zero, List.getElem_cons_succ, Act.put, List.setIfInBounds_toArray, List.set_cons_zero, List.set_cons_succ] at hK ⊢
                  go_simp
                  exact hK.out _ _ hw (Below.refl _ _) (rfl)
                refine Inv.Steps.go (by decide) (by rfl) (fun σ wx hw hd K hK => ?_) ?_
                · obtain e90 : (σ 90) = .pointer (some ⟨b17, 2, none⟩) := hd 4 (some 90) (by kernel_rfl) (by rfl)
                  simp only [List.getElem_toArray, List.getElem_cons_zero, List.getElem_cons_succ, Act.put, List.setIfInBounds_toArray, List.set_cons_zero, List.set_cons_succ, e90] at hK ⊢
                  obtain ⟨k0, k1, k2⟩ := cells3 (hop3 hw P17.out)
                  go_simp
                  exact hK.out _ _ hw (Below.refl _ _) (rfl)
                refine Inv.Steps.go (by decide) (by rfl) (fun σ wx hw hd K hK => ?_) ?_
                · obtain e91 : (σ 91) = .slice sa sn sc := hd 5 (some 91) (by kernel_rfl) (by rfl)
                  simp only [List.getElem_toArray, List.getElem_cons_zero, List.getElem_cons_succ, Act.put, List.setIfInBounds_toArray, List.set_cons_zero, List.set_cons_succ, e91] at hK ⊢
                  refine wp_copys (.tmp 91) rfl (show _ = _ by first | rfl | simp [Act.eval]) (A5.out _ hw) (by have := A1.out.len; omega) ?_
                  intro v_ w_ o_ b_
                  obtain ⟨a_, c_, e_⟩ := o_.form
                  subst e_
                  exact hK.out _ _ (Buf.then_ hw b_) b_ (⟨_, _, _, rfl, Sp.own_mono o_ (by rw [HN5.out]; exact hw.size)⟩)
                refine Inv.Steps.go (by decide) (by rfl) (fun σ wx hw hd K hK => ?_) ?_
                · simp only [List.getElem_toArray, List.getElem_cons_zero, List.getElem_cons_succ, Act.put, List.setIfInBounds_toArray, List.set_cons_zero, List.set_cons_succ] at hK ⊢
                  go_simp
                  exact hK.out _ _ hw (Below.refl _ _) (rfl)
                exact Inv.Steps.nil
              · intro σ wx hw hd
                obtain e89 : (σ 89) = .int .i64 (1073741825 - (sn : Int)) := hd 3 (some 89) (by rfl) (by rfl)
                obtain ⟨ua, un, uc, e92, O92⟩ : ∃ a n c, (σ 92) = .slice a n c ∧ OwS wx N5 (.slice a n c) S1 := hd 6 (some 92) (by rfl) (by rfl)
                obtain e93 : (σ 93) = .pointer (some ⟨b17, 1, none⟩) := hd 7 (some 93) (by rfl) (by rfl)
                simp only [e89, e92, e93]
                have P17y := hop3 hw P17.out
                have P16y := hop3 hw P16.out
                obtain ⟨k0, k1, k2⟩ := cells3 P17y
                obtain ⟨f0, f1, f2⟩ := free3 P17y
                refine Inv.one (i := 8) (by decide) (by kernel_rfl) (by rfl) (fun K hK => ?_)
                simp only [List.getElem_toArray, List.getElem_cons_zero, List.getElem_cons_succ, Act.put, List.setIfInBounds_toArray, List.set_cons_zero, List.set_cons_succ] at hK ⊢
                go_simp
                refine hK.out _ _ ?_
                clear hK K
                refine Inv.take (i := 9) (v := .pointer (some ⟨b17, 2, none⟩)) (by decide) rfl (by kernel_rfl) (by kernel_rfl) (by kernel_rfl) (fun _ _ _ h => h) (by rfl) (fun w' => ?_) ?_
                · simp only [List.getElem_toArray, List.getElem_cons_zero, List.getElem_cons_succ]
                  go_simp
                try simp only [Act.put, List.setIfInBounds_toArray, List.set_cons_zero, List.set_cons_succ]
                have Q17 := (heap_setCell_same wx b17 1 _ _ (.int .i64 (1073741825 - (sn : Int))) P17y).trans rfl
                obtain ⟨g0, g1, g2⟩ := cells3 Q17
                obtain ⟨m0, m1, m2⟩ := free3 Q17
                refine Inv.one (i := 10) (by decide) (by kernel_rfl) (by rfl) (fun K hK => ?_)
                simp only [List.getElem_toArray, List.getElem_cons_zero, List.getElem_cons_succ, Act.put, List.setIfInBounds_toArray, List.set_cons_zero, List.set_cons_succ] at hK ⊢
                go_simp
                refine hK.out _ _ ?_
                clear hK K
                refine Inv.done (by kernel_rfl) (NoPanic.normal ?_)
                have Q17b := (heap_setCell_same (wx.setCell ⟨b17, 1, none⟩ (.int .i64 (1073741825 - (sn : Int)))) b17 2 _ _ (.slice ua un uc) Q17).trans rfl
                have L7 := Dice.Left.past D0.out (L5.out.below hw) (((Below.refl w0x.heap.size wx).setCell (p := ⟨b17, 1, none⟩) LE.out (.int .i64 (1073741825 - (sn : Int)))).setCell (p := ⟨b17, 2, none⟩) LE.out (.slice ua un uc))
                have NS : ∀ (x y : Int) (a : Option Addr) (n c : Nat) (i : Nat) (s : ByteArray), (#[Value.int .i64 x, .int .i64 y, .slice a n c] : Array Value)[i]? ≠ some (.string s) := fun x y a n c i s => by rcases i with _ | _ | _ | i <;> simp
                have OS2 : Sen d ((wx.setCell ⟨b17, 1, none⟩ (.int .i64 (1073741825 - (sn : Int)))).setCell ⟨b17, 2, none⟩ (.slice ua un uc)) (.slice ua un uc) S1 := ⟨Stw.set (Stw.set O92.stw P17y (NS _ _ _ _ _) _) Q17 (NS _ _ _ _ _) _, A1.out.len, OwS.ne O92 (by have := L5.out.di.lt; rw [HN5.out]; exact this)⟩
                obtain ⟨z1, z2, z3, z4, z5⟩ := FIN.out _ L7
                go_wp2_with fail
                go_meet
                exact ⟨sz, _, ua, un, uc, S1, z1, z2, z3, z4, z5, Lib.hid ((Below.heap_setCell _ _ _ b16 n67).trans ((Below.heap_setCell wx _ _ b16 n67).trans P16y)), Lib.hid Q17b, Lib.hid OS2⟩
            · obtain ⟨k0, k1, k2⟩ := cells3 P17.out
              have A5 := Lib.hid (A1.out.left L5.out).its
              have lt5 := L5.out.di.lt
              have NS : ∀ (x y : Int) (a : Option Addr) (n c : Nat) (i : Nat) (s : ByteArray), (#[Value.int .i64 x, .int .i64 y, .slice a n c] : Array Value)[i]? ≠ some (.string s) := fun x y a n c i s => by rcases i with _ | _ | _ | i <;> simp
              go_wp2_with (first
                | (at_builtin; refine wpl_copys rfl (.tmp 98) rfl rfl A5.out (by have := A1.out.len; omega) ?_; intro v6 w6 o6 b6; obtain ⟨a6, n6, c6, e6⟩ := ows_form o6; subst e6; have O6 := Lib.hid o6; have B6 := Lib.hid b6; clear o6 b6)
                | (at_builtin; refine wpl_two rfl (.tmp 99) (.tmp 100) rfl rfl rfl (Sp.own_below O6.out (new_block _)) (heap_alloc_new w6 _) (Nat.le_trans B6.out.size (by simp)) (by have := A1.out.len; omega) ?_; intro v7 w7 o7 g7; obtain ⟨a7, n7, c7, e7⟩ := ows_form o7; subst e7; have B7 := Lib.hid ((Buf.then_ B6.out (new_block _)).grown g7 (Nat.le_trans B6.out.size (by simp)) (fun k hk => (World.ownsRow.lt O6.out k hk).1)); have P17y := hop3 B7.out P17.out; have P16y := hop3 B7.out P16.out; obtain ⟨k0, k1, k2⟩ := cells3 P17y; obtain ⟨f0, f1, f2⟩ := free3 P17y))
              have Q17 := (heap_setCell_same w7 b17 2 _ _ (.slice a7 n7 c7) P17y).trans rfl
              have L7 := Dice.Left.past D0.out (L5.out.below B7.out) ((Below.refl w0x.heap.size w7).setCell (p := ⟨b17, 2, none⟩) LE.out (.slice a7 n7 c7))
              obtain ⟨z1, z2, z3, z4, z5⟩ := FIN.out _ L7
              go_meet
              exact ⟨sz, sf, a7, n7, c7, _, z1, z2, z3, z4, z5, Lib.hid ((Below.heap_setCell w7 _ _ b16 n67).trans P16y), Lib.hid Q17, Lib.hid ⟨Stw.set o7.stw P17y (NS _ _ _ _ _) _, by have := (Stw.len A1.out.its).1; have := hsn; simp; omega, OwS.ne o7 lt5⟩⟩
          case rest =>
            obtain ⟨oz, of_, oa, on, oc, OS, D5, A1', XL', YL', P8', P16', P17', O1⟩ := hcut
            clear D0 P16 P17 L5 XL YL A1 P8d LE n16 n17 n67 sf9
            obtain ⟨k0, k1, k2⟩ := cells3 P16'.out
            obtain ⟨k3, k4, k5⟩ := cells3 P17'.out
            obtain ⟨k6, k7, k8⟩ := cells3 P8'.out
            go_upto_region 16 with fail
            obtain ⟨wA, hwA⟩ : ∃ wA, wA = wc.alloc (.cells #[.int .i64 sz, .int .i64 sf, .slice sa sn sc, .int .i64 oz, .int .i64 of_, .slice oa on oc, .int .i64 rz, .int .i64 rf, .slice xa xn xc] 25) := ⟨_, rfl⟩
            obtain ⟨bP, hbP⟩ : ∃ bP, bP = wc.heap.size := ⟨_, rfl⟩
            have S0 : Hid (MX wb d a0 len0 cap0 z0 bP sz sf oz of_ rz rf (.slice sa sn sc) (.slice oa on oc) (.slice xa xn xc) (.slice ya yn yc) S1 OS RS RL wA) := Lib.hid (by
              have BA : Below wc.heap.size wc wA := by rw [hwA]; exact new_block _
              exact ⟨D5.out.below BA, A1'.out.keep BA, O1.out.keep BA, XL'.out.keep BA, YL'.out.keep BA, by rw [hwA, hbP]; exact heap_alloc_new wc _, by have := D5.out.lt; omega⟩)
            rw [← hwA, ← hbP]
            clear hwA hbP D5 A1' O1 XL' YL' k0 k1 k2 k3 k4 k5 k6 k7 k8 P16' P17' P8' P8
            go_loopw [108] (fun i wr => ∃ j : Nat, j ≤ 3 ∧ i = .int .i64 j ∧ Hid (MX wb d a0 len0 cap0 z0 bP sz sf oz of_ rz rf (.slice sa sn sc) (.slice oa on oc) (.slice xa xn xc) (.slice ya yn yc) S1 OS RS RL wr)) (fun i _ => (3 - intOf i).toNat)
            case atStart => exact ⟨0, by omega, rfl, S0⟩
            case round =>
              clear S0
              obtain ⟨jo, hjo, rfl, O⟩ := hrel
              by_cases hj3 : jo < 3
              · obtain ⟨pz, pf, pa, pn, pc, P, cp, cq, cr, pq⟩ : ∃ (pz pf : Int) (pa : Option Addr) (pn pc : Nat) (P : LS), wr.cell? ⟨bP, jo * 3, none⟩ = some (.int .i64 pz) ∧ wr.cell? ⟨bP, jo * 3 + 1, none⟩ = some (.int .i64 pf) ∧ wr.cell? ⟨bP, jo * 3 + 2, none⟩ = some (.slice pa pn pc) ∧ ∀ wz, MX wb d a0 len0 cap0 z0 bP sz sf oz of_ rz rf (.slice sa sn sc) (.slice oa on oc) (.slice xa xn xc) (.slice ya yn yc) S1 OS RS RL wz → Sen d wz (.slice pa pn pc) P := by
                  rcases (show jo = 0 ∨ jo = 1 ∨ jo = 2 by omega) with rfl | rfl | rfl
                  · exact ⟨_, _, _, _, _, _, cell_of_row wr bP 0 _ _ _ O.out.P, cell_of_row wr bP 1 _ _ _ O.out.P, cell_of_row wr bP 2 _ _ _ O.out.P, fun wz o => o.a1⟩
                  · exact ⟨_, _, _, _, _, _, cell_of_row wr bP 3 _ _ _ O.out.P, cell_of_row wr bP 4 _ _ _ O.out.P, cell_of_row wr bP 5 _ _ _ O.out.P, fun wz o => o.a2⟩
                  · exact ⟨_, _, _, _, _, _, cell_of_row wr bP 6 _ _ _ O.out.P, cell_of_row wr bP 7 _ _ _ O.out.P, cell_of_row wr bP 8 _ _ _ O.out.P, fun wz o => o.a3⟩
                have PQ := Lib.hid pq
                have bjo : (jo : Int) < 3 := by omega
                clear pq
                go_upto_region 18 with fail
                obtain ⟨wB, hwB⟩ : ∃ wB, wB = wr.alloc (.cells #[.int .i64 pz, .int .i64 pf, .slice pa pn pc] 25) := ⟨_, rfl⟩
                obtain ⟨bX, hbX⟩ : ∃ bX, bX = wr.heap.size := ⟨_, rfl⟩
                have PX := Lib.hid (show wB.heap[bX]? = some (.cells #[.int .i64 pz, .int .i64 pf, .slice pa pn pc] 25 (0, 0)) by rw [hwB, hbX]; exact heap_alloc_new wr _)
                have O1 := Lib.hid (O.out.below (show Below wr.heap.size wr wB by rw [hwB]; exact new_block _))
                have NX : bX ≠ d := by have := O.out.di.lt; omega
                rw [← hwB, ← hbX]
                clear hwB hbX O cp cq cr
                have RQ := Lib.hid fun wz (hb : Below wB.heap.size wB wz) => (PQ.out _ O1.out).keep hb
                have hpn := (Stw.len (PQ.out _ O1.out).its).1
                have hpl := (PQ.out _ O1.out).len
                have KX := Lib.hid fun wz (hb : Below wB.heap.size wB wz) => cells3 (hop3 hb PX.out)
                have BC := Lib.hid (Below.refl wB.heap.size wB)
                have hpn9 : pn ≤ 300 := by omega
                replace hpn := Lib.hid hpn
                obtain ⟨k0, k1, k2⟩ := KX.out _ BC.out
                go_wp2_with fail
                refine (push_all pz pf ba (RQ.out _ BC.out).its (by omega) (by have := HBA.out; omega)).mono ?_
                rintro e w6 ⟨⟨g1, h1, u1, q1, e1, M1, rfl, H1, T1⟩, hb⟩
                obtain ⟨u1a, u1n, u1c, rfl⟩ := T1.form
                replace T1 := Lib.hid T1
                have L1 := H1.len
                replace H1 := Lib.hid H1
                replace BC := Lib.hid (Buf.then_ BC.out hb)
                clear hb k0 k1 k2
                go_upto_region 19 with fail
                obtain ⟨v1, hv1⟩ : ∃ wz, wz = w6.alloc (.cells #[.int .i64 g1, .int .i64 h1, .slice u1a u1n u1c] 25) := ⟨_, rfl⟩
                obtain ⟨s1, hs1⟩ : ∃ bz, bz = w6.heap.size := ⟨_, rfl⟩
                have hb : Below w6.heap.size w6 v1 := by rw [hv1]; exact new_block _
                have Q1 := Lib.hid (show v1.heap[s1]? = some (.cells #[.int .i64 g1, .int .i64 h1, .slice u1a u1n u1c] 25 (0, 0)) by rw [hv1, hs1]; exact heap_alloc_new w6 _)
                replace T1 := Lib.hid (T1.out.keep hb)
                replace BC := Lib.hid (Buf.then_ BC.out hb)
                rw [← hv1, ← hs1]
                clear hv1 hs1 hb
                obtain ⟨k0, k1, k2⟩ := KX.out _ BC.out
                go_wp2_with fail
                refine (refpush_all pz pf ba (RQ.out _ BC.out).its (by omega) (by have := HBA.out; omega)).mono ?_
                rintro e w7 ⟨⟨g2, h2, u2, q2, e2, M2, rfl, H2, T2⟩, hb⟩
                obtain ⟨u2a, u2n, u2c, rfl⟩ := T2.form
                replace T2 := Lib.hid T2
                obtain ⟨r1_, r2_, r3_, r4_, r5_⟩ := PusR.unique H1.out H2
                subst r1_ r2_ r3_ r4_ r5_
                replace T1 := Lib.hid (T1.out.keep hb)
                replace Q1 := Lib.hid (hop3 hb Q1.out)
                replace BC := Lib.hid (Buf.then_ BC.out hb)
                clear hb k0 k1 k2 H1 H2
                go_upto_region 20 with fail
                obtain ⟨v2, hv2⟩ : ∃ wz, wz = w7.alloc (.cells #[.int .i64 g1, .int .i64 h1, .slice u2a u2n u2c] 25) := ⟨_, rfl⟩
                obtain ⟨s2, hs2⟩ : ∃ bz, bz = w7.heap.size := ⟨_, rfl⟩
                have hb : Below w7.heap.size w7 v2 := by rw [hv2]; exact new_block _
                have Q2 := Lib.hid (show v2.heap[s2]? = some (.cells #[.int .i64 g1, .int .i64 h1, .slice u2a u2n u2c] 25 (0, 0)) by rw [hv2, hs2]; exact heap_alloc_new w7 _)
                replace T1 := Lib.hid (T1.out.keep hb)
                replace T2 := Lib.hid (T2.out.keep hb)
                replace Q1 := Lib.hid (hop3 hb Q1.out)
                replace BC := Lib.hid (Buf.then_ BC.out hb)
                rw [← hv2, ← hs2]
                clear hv2 hs2 hb
                have KY := Lib.hid fun wz (hb : Below v2.heap.size v2 wz) => KX.out wz (Buf.then_ BC.out hb)
                have SM := Lib.hid fun wz (hb : Below v2.heap.size v2 wz) => same_all g1 h1 (T1.out.keep hb) (T2.out.keep hb) (by have := hpl; omega)
                have VA := Lib.hid fun wz (hb : Below v2.heap.size v2 wz) => valid_all pz pf (RQ.out wz (Buf.then_ BC.out hb)).its (by omega)
                have VB := Lib.hid fun wz (hb : Below v2.heap.size v2 wz) => refvalid_all pz pf (RQ.out wz (Buf.then_ BC.out hb)).its (by omega)
                have d1 : (q1 != q1) = false := by simp
                have d2 : (e1 != e1) = false := by simp
                have d3 : decide ((pn : Int) < 1000) = true := decide_eq_true (by omega)
                go_cut [163] from 126 to 162 (fun s163 wx => s163 = .bool false ∧ Hid (Below v2.heap.size v2 wx))
                case first =>
                  by_cases ok : OkS pz pf P
                  · rw [okB_yes ok] at VA VB
                    have NA := Lib.hid fun (wz : World) => next_s (w := wz) (a := pa) (n := pn) (c := pc) pz pf ok.2.2.1 (by have := ok.2.2.2.2.1; rw [← hpn.out] at this; exact this)
                    have NB := Lib.hid fun (wz : World) => refnext_s (w := wz) (a := pa) (n := pn) (c := pc) pz pf ok.2.2.1 (by have := ok.2.2.2.2.1; rw [← hpn.out] at this; exact this)
                    have d4 : (pf + (pn : Int) != pf + (pn : Int)) = false := by simp
                    clear ok
                    refine Buf.region_calm v2 (by kernel_rfl) (by kernel_rfl) (Below.refl _ _) ?_
                    repeat (go_big_quiet_step ((intro hC; first
                      | (go_at_call 14; with_reducible exact Buf.calm hC (SM.out _ hC))
                      | (go_at_call 15; with_reducible exact Buf.calm hC (VA.out _ hC))
                      | (go_at_call 16; with_reducible exact Buf.calm hC (VB.out _ hC))
                      | (go_at_call 17; with_reducible exact Buf.calm hC (NA.out _))
                      | (go_at_call 18; with_reducible exact Buf.calm hC (NB.out _))
                      | rfl
                      | (simp only [(KY.out _ hC).1, (KY.out _ hC).2.1, (KY.out _ hC).2.2, Result.andThen_ok]; exact ⟨trivial, rfl⟩)
                      | (simp only [(cells3 (hop3 hC Q1.out)).1, (cells3 (hop3 hC Q1.out)).2.1, (cells3 (hop3 hC Q1.out)).2.2, Result.andThen_ok]; exact ⟨trivial, rfl⟩)
                      | (simp only [(cells3 (hop3 hC Q2.out)).1, (cells3 (hop3 hC Q2.out)).2.1, (cells3 (hop3 hC Q2.out)).2.2, Result.andThen_ok]; exact ⟨trivial, rfl⟩))))
                    refine wpQuiet_nil ?_
                    intro w8 hb
                    go_wp2_with fail
                    go_meet
                    exact ⟨rfl, Lib.hid hb⟩
                  · rw [okB_no ok] at VA VB
                    clear ok
                    refine Buf.region_calm v2 (by kernel_rfl) (by kernel_rfl) (Below.refl _ _) ?_
                    repeat (go_big_quiet_step ((intro hC; first
                      | (go_at_call 14; with_reducible exact Buf.calm hC (SM.out _ hC))
                      | (go_at_call 15; with_reducible exact Buf.calm hC (VA.out _ hC))
                      | (go_at_call 16; with_reducible exact Buf.calm hC (VB.out _ hC))
                      | rfl
                      | (simp only [(KY.out _ hC).1, (KY.out _ hC).2.1, (KY.out _ hC).2.2, Result.andThen_ok]; exact ⟨trivial, rfl⟩)
                      | (simp only [(cells3 (hop3 hC Q1.out)).1, (cells3 (hop3 hC Q1.out)).2.1, (cells3 (hop3 hC Q1.out)).2.2, Result.andThen_ok]; exact ⟨trivial, rfl⟩)
                      | (simp only [(cells3 (hop3 hC Q2.out)).1, (cells3 (hop3 hC Q2.out)).2.1, (cells3 (hop3 hC Q2.out)).2.2, Result.andThen_ok]; exact ⟨trivial, rfl⟩))))
                    refine wpQuiet_nil ?_
                    intro w8 hb
                    go_wp2_with fail
                    go_meet
                    exact ⟨rfl, Lib.hid hb⟩
                case rest =>
                  obtain ⟨rfl, hbb⟩ := hcut
                  have O2 := Lib.hid (O1.out.below (Buf.then_ BC.out hbb.out))
                  replace PX := Lib.hid (hop3 (Buf.then_ BC.out hbb.out) PX.out)
                  clear KY SM VA VB d1 d2 d3 T1 T2 Q1 Q2 RQ KX BC hbb O1
                  go_upto_region 22 with fail
                  obtain ⟨N8, hN8⟩ : ∃ N8, N8 = wc.heap.size := ⟨_, rfl⟩
                  have HN8 := Lib.hid hN8
                  have hdN : d < N8 := by rw [hN8]; exact O2.out.di.lt
                  clear hN8
                  have KX8 := Lib.hid fun wz (hl : Dice.Left wb wc wz d a0 len0 cap0 z0) => cells3 ((hl.far.block bX (Array.getElem?_eq_some_iff.1 PX.out).1 (by simpa using NX)).trans PX.out)
                  have SZ8 := Lib.hid fun wz (hl : Dice.Left wb wc wz d a0 len0 cap0 z0) => Nat.le_trans (Nat.le_of_eq HN8.out) hl.far.size
                  have hw0 : Dice.Left wb wc wc.drew d a0 len0 cap0 z0 := (Dice.Left.refl O2.out.di).below (Below.refl _ _).drew
                  refine wp_region_noPanic ?_
                  refine wp_region_any (by kernel_rfl) ?_
                  refine Inv.wpAny_inv (fun k => false) [164, 165, 166, 167, 168, 169, 170, 171, 172] (fun w' => Dice.Left wb wc w' d a0 len0 cap0 z0) (fun _ w1 w2 => w1.grownBy w2 (some d)) (fun k => ([fun v_ w_ => v_ = .int .i64 aseq, fun v_ w_ => v_ = .pointer (some ⟨d, 0, none⟩), fun v_ w_ => ∃ y : Int, v_ = .int .i64 y ∧ 0 ≤ y ∧ y ≤ 12, fun v_ w_ => ∃ y : Int, v_ = .int .i64 y, fun v_ w_ => v_ = .pointer (some ⟨bX, 1, none⟩), fun v_ w_ => v_ = .int .i64 pf, fun v_ w_ => ∃ (h : Nat) (y : Int), v_ = .slice (some ⟨h, 0, none⟩) 3 3 ∧ N8 ≤ h ∧ w_.heap[h]? = some (.cells #[.int .i64 aseq, .int .i64 y, .int .i64 pf] 3 (0, 0)), fun v_ w_ => v_ = .int .i64 3, fun v_ w_ => v_ = .int .i64 0] : List (Value → World → Prop)).getD k (fun _ _ => True)) _ (fun σ => by simp only [Inv.putAll, List.foldl_cons, List.foldl_nil, Act.put, List.setIfInBounds_toArray, List.set_cons_zero, List.set_cons_succ]; rfl) (by kernel_rfl) (by kernel_rfl) ?_ hw0 ?_ ?_ 0 #[true, true, true, true, true, true, true, true, true] (by kernel_rfl) (by kernel_rfl) ?_
                  · intro j k v w1 w2 hjk hv hr
                    rcases k with _ | k
                    · exact hv
                    rcases k with _ | k
                    · exact hv
                    rcases k with _ | k
                    · exact hv
                    rcases k with _ | k
                    · exact hv
                    rcases k with _ | k
                    · exact hv
                    rcases k with _ | k
                    · exact hv
                    rcases k with _ | k
                    · exact by obtain ⟨h, y, e, h1, h2⟩ := hv; exact ⟨h, y, e, h1, (hr.block h (Array.getElem?_eq_some_iff.1 h2).1 (by simp; omega)).trans h2⟩
                    rcases k with _ | k
                    · exact hv
                    rcases k with _ | k
                    · exact hv
                    · exact hv
                  · intro k t hl hd
                    rcases k with _ | k
                    · exact absurd hl (by decide +kernel)
                    rcases k with _ | k
                    · exact absurd hl (by decide +kernel)
                    rcases k with _ | k
                    · exact absurd hl (by decide +kernel)
                    rcases k with _ | k
                    · exact absurd hl (by decide +kernel)
                    rcases k with _ | k
                    · exact absurd hl (by decide +kernel)
                    rcases k with _ | k
                    · exact absurd hl (by decide +kernel)
                    rcases k with _ | k
                    · exact absurd hl (by decide +kernel)
                    rcases k with _ | k
                    · exact absurd hl (by decide +kernel)
                    rcases k with _ | k
                    · exact absurd hl (by decide +kernel)
                    · simp at hd
                  · show Inv.Steps _ _ _ _ _ _ _ _ [0, 1, 2, 3, 4, 5, 6, 7, 8]
                    refine Inv.Steps.go (by decide) (by rfl) (fun σ wx hw hd K hK => ?_) ?_
                    · simp only [List.getElem_toArray, List.getElem_cons_zero, List.getElem_cons_succ, Act.put, List.setIfInBounds_toArray, List.set_cons_zero, List.set_cons_succ] at hK ⊢
                      go_simp
                      exact hK.out _ _ hw (World.grownBy.refl _ _) (rfl)
                    refine Inv.Steps.go (by decide) (by rfl) (fun σ wx hw hd K hK => ?_) ?_
                    · simp only [List.getElem_toArray, List.getElem_cons_zero, List.getElem_cons_succ, Act.put, List.setIfInBounds_toArray, List.set_cons_zero, List.set_cons_succ] at hK ⊢
                      go_simp
                      exact hK.out _ _ hw (World.grownBy.refl _ _) (rfl)
                    refine Inv.Steps.go (by decide) (by rfl) (fun σ wx hw hd K hK => ?_) ?_
                    · obtain e165 : (σ 165) = .pointer (some ⟨d, 0, none⟩) := hd 1 (some 165) (by kernel_rfl) (by rfl)
                      simp only [List.getElem_toArray, List.getElem_cons_zero, List.getElem_cons_succ, Act.put, List.setIfInBounds_toArray, List.set_cons_zero, List.set_cons_succ, e165] at hK ⊢
                      go_simp
                      go_at_call 10
                      refine (next_any 12 hw.di (by omega) (by omega)).mono ?_
                      rintro e w1 ⟨⟨y_, rfl, c1_, c2_⟩, hl_⟩
                      dsimp only
                      exact hK.out _ _ (hw.trans hl_) hl_.far (⟨y_, rfl, c1_, by omega⟩)
                    refine Inv.Steps.go (by decide) (by rfl) (fun σ wx hw hd K hK => ?_) ?_
                    · obtain ⟨y1, e166, ya1, yb1⟩ : ∃ y : Int, (σ 166) = .int .i64 y ∧ 0 ≤ y ∧ y ≤ 12 := hd 2 (some 166) (by kernel_rfl) (by rfl)
                      simp only [List.getElem_toArray, List.getElem_cons_zero, List.getElem_cons_succ, Act.put, List.setIfInBounds_toArray, List.set_cons_zero, List.set_cons_succ, e166] at hK ⊢
                      have ww : IntKind.i64.wrap (y1 - 1) = y1 - 1 := IntWalk.i64_in _ (by omega)
                      go_simp
                      exact hK.out _ _ hw (World.grownBy.refl _ _) (⟨_, rfl⟩)
                    refine Inv.Steps.go (by decide) (by rfl) (fun σ wx hw hd K hK => ?_) ?_
                    · simp only [List.getElem_toArray, List.getElem_cons_zero, List.getElem_cons_succ, Act.put, List.setIfInBounds_toArray, List.set_cons_zero, List.set_cons_succ] at hK ⊢
                      go_simp
                      exact hK.out _ _ hw (World.grownBy.refl _ _) (rfl)
                    refine Inv.Steps.go (by decide) (by rfl) (fun σ wx hw hd K hK => ?_) ?_
                    · obtain e168 : (σ 168) = .pointer (some ⟨bX, 1, none⟩) := hd 4 (some 168) (by kernel_rfl) (by rfl)
                      simp only [List.getElem_toArray, List.getElem_cons_zero, List.getElem_cons_succ, Act.put, List.setIfInBounds_toArray, List.set_cons_zero, List.set_cons_succ, e168] at hK ⊢
                      obtain ⟨k0, k1, k2⟩ := KX8.out _ hw
                      go_simp
                      exact hK.out _ _ hw (World.grownBy.refl _ _) (rfl)
                    refine Inv.Steps.go (by decide) (by rfl) (fun σ wx hw hd K hK => ?_) ?_
                    · obtain e164 : (σ 164) = .int .i64 aseq := hd 0 (some 164) (by kernel_rfl) (by rfl)
                      obtain ⟨y2, e167⟩ : ∃ y : Int, (σ 167) = .int .i64 y := hd 3 (some 167) (by kernel_rfl) (by rfl)
                      obtain e169 : (σ 169) = .int .i64 pf := hd 5 (some 169) (by kernel_rfl) (by rfl)
                      simp only [List.getElem_toArray, List.getElem_cons_zero, List.getElem_cons_succ, Act.put, List.setIfInBounds_toArray, List.set_cons_zero, List.set_cons_succ, e164, e167, e169] at hK ⊢
                      go_simp
                      exact hK.out _ _ (hw.below (new_block _)) (Dice.Left.far ((Dice.Left.refl hw.di).below (new_block _))) (⟨_, _, rfl, SZ8.out _ hw, heap_alloc_new _ _⟩)
                    refine Inv.Steps.go (by decide) (by rfl) (fun σ wx hw hd K hK => ?_) ?_
                    · obtain ⟨bE, y3, e170, hbE, PE⟩ : ∃ (h : Nat) (y : Int), (σ 170) = .slice (some ⟨h, 0, none⟩) 3 3 ∧ N8 ≤ h ∧ wx.heap[h]? = some (.cells #[.int .i64 aseq, .int .i64 y, .int .i64 pf] 3 (0, 0)) := hd 6 (some 170) (by kernel_rfl) (by rfl)
                      simp only [List.getElem_toArray, List.getElem_cons_zero, List.getElem_cons_succ, Act.put, List.setIfInBounds_toArray, List.set_cons_zero, List.set_cons_succ, e170] at hK ⊢
                      go_simp
                      exact hK.out _ _ hw (World.grownBy.refl _ _) (rfl)
                    refine Inv.Steps.go (by decide) (by rfl) (fun σ wx hw hd K hK => ?_) ?_
                    · simp only [List.getElem_toArray, List.getElem_cons_zero, List.getElem_cons_succ, Act.put, List.setIfInBounds_toArray, List.set_cons_zero, List.set_cons_succ] at hK ⊢
                      go_simp
                      exact hK.out _ _ hw (World.grownBy.refl _ _) (rfl)
                    exact Inv.Steps.nil
                  · intro σ wx hw hd
                    obtain ⟨bE, y3, e170, hbE, PE⟩ : ∃ (h : Nat) (y : Int), (σ 170) = .slice (some ⟨h, 0, none⟩) 3 3 ∧ N8 ≤ h ∧ wx.heap[h]? = some (.cells #[.int .i64 aseq, .int .i64 y, .int .i64 pf] 3 (0, 0)) := hd 6 (some 170) (by rfl) (by rfl)
                    have e171 : (σ 171) = .int .i64 3 := hd 7 (some 171) (by rfl) (by rfl)
                    have e172 : (σ 172) = .int .i64 0 := hd 8 (some 172) (by rfl) (by rfl)
                    simp only [e170, e171, e172]
                    clear e170 e171 e172
                    refine Inv.done (by kernel_rfl) (NoPanic.normal ?_)
                    have O3 := Lib.hid (O2.out.left hw)
                    have PX3 := Lib.hid ((hw.far.block bX (Array.getElem?_eq_some_iff.1 PX.out).1 (by simpa using NX)).trans PX.out)
                    clear hd hw O2 PX KX8 SZ8 hw0
                    obtain ⟨wE, hwE⟩ : ∃ wE, wE = wx := ⟨_, rfl⟩
                    rw [← hwE] at O3 PX3 PE ⊢
                    clear hwE
                    have KE : Hid (∀ wz, Below wE.heap.size wE wz → ∀ j : Nat, j < 3 → ∃ kk : Int, wz.cell? ⟨bE, j, none⟩ = some (.int .i64 kk)) := Lib.hid fun wz hb j hj => by
                      have h : wz.cell? ⟨bE, j, none⟩ = wE.cell? ⟨bE, j, none⟩ := World.cell?_of_block (a := ⟨bE, j, none⟩) (hb.block bE (Array.getElem?_eq_some_iff.1 PE).1)
                      rw [h, cell_of_row wE bE j _ _ _ PE]
                      rcases (show j = 0 ∨ j = 1 ∨ j = 2 by omega) with rfl | rfl | rfl
                      all_goals exact ⟨_, rfl⟩
                    clear PE hbE HN8
                    have RQ := Lib.hid fun wz (hb : Below wE.heap.size wE wz) => (PQ.out _ O3.out).keep hb
                    have KX := Lib.hid fun wz (hb : Below wE.heap.size wE wz) => cells3 (hop3 hb PX3.out)
                    have B0' := Lib.hid (Below.refl wE.heap.size wE)
                    go_wp2_with fail
                    go_loopw [172] (fun i wr => ∃ j : Nat, j ≤ 3 ∧ i = .int .i64 j ∧ Hid (Below wE.heap.size wE wr)) (fun i _ => (3 - intOf i).toNat)
                    case atStart => exact ⟨0, by omega, rfl, B0'⟩
                    case round =>
                      clear B0'
                      obtain ⟨j, hj, rfl, BC⟩ := hrel
                      by_cases hjk : j < 3
                      · obtain ⟨kk, ck⟩ := KE.out _ BC.out j hjk
                        have bj : (j : Int) < 3 := by omega
                        obtain ⟨k0, k1, k2⟩ := KX.out _ BC.out
                        go_wp2_with fail
                        refine (get_all pz pf kk (RQ.out _ BC.out).its (by omega)).mono ?_
                        rintro e w6 ⟨⟨s1, b1, rfl, H1⟩, hb⟩
                        replace H1 := Lib.hid H1
                        replace BC := Lib.hid (Buf.then_ BC.out hb)
                        clear hb k0 k1 k2 ck
                        obtain ⟨k0, k1, k2⟩ := KX.out _ BC.out
                        go_wp2_with fail
                        refine (refget_all pz pf kk (RQ.out _ BC.out).its (by omega)).mono ?_
                        rintro e w7 ⟨⟨s2, b2, rfl, H2⟩, hb⟩
                        obtain ⟨h1_, h2_⟩ := GetR.unique H1.out H2
                        subst h1_ h2_
                        replace BC := Lib.hid (Buf.then_ BC.out hb)
                        clear hb k0 k1 k2 H1 H2
                        have d1 : (b1 != b1) = false := by simp
                        go_wp2_with fail
                        go_roundw
                        case rel => exact ⟨j + 1, by omega, by go_num, BC⟩
                        case measure => simp [intOf]; omega
                      · obtain rfl : j = 3 := by omega
                        have OX := Lib.hid (O3.out.below BC.out)
                        have PX5 := Lib.hid (hop3 BC.out PX3.out)
                        clear O3 KE BC hjk hj RQ KX PX3
                        go_wp2_with fail
                        refine (Sp.spans_any OX.out.di).mono ?_
                        rintro e w5 ⟨⟨dv, DL, rfl, DO, dl9⟩, hl⟩
                        have O9 := Lib.hid (OX.out.left hl)
                        replace PX5 := Lib.hid ((hl.far.block bX (Array.getElem?_eq_some_iff.1 PX5.out).1 (by simpa using NX)).trans PX5.out)
                        have DD := Lib.hid (show Lis d w5 dv DL from ⟨spw_of_own DO, by omega, spans_apart DO hl.di⟩)
                        obtain ⟨da, dn, dc, rfl⟩ := DD.out.its.form
                        clear hl OX DO
                        go_upto_region 31 with fail
                        obtain ⟨wF, hwF⟩ : ∃ wF, wF = w5.alloc (.cells #[.slice ya yn yc, .slice da dn dc] 26) := ⟨_, rfl⟩
                        obtain ⟨bF, hbF⟩ : ∃ bF, bF = w5.heap.size := ⟨_, rfl⟩
                        have PF := Lib.hid (show wF.heap[bF]? = some (.cells #[.slice ya yn yc, .slice da dn dc] 26 (0, 0)) by rw [hwF, hbF]; exact heap_alloc_new w5 _)
                        have NF : bF ≠ d := by have := O9.out.di.lt; omega
                        have BF : Below w5.heap.size w5 wF := by rw [hwF]; exact new_block _
                        have O6 := Lib.hid (O9.out.below BF)
                        have PX6 := Lib.hid (hop3 BF PX5.out)
                        have DD6 := Lib.hid (DD.out.keep BF)
                        rw [← hwF, ← hbF]
                        clear hwF hbF O9 PX5 DD BF
                        go_loopw [202] (fun i wr => ∃ j : Nat, j ≤ 2 ∧ i = .int .i64 j ∧ Hid (MX wb d a0 len0 cap0 z0 bP sz sf oz of_ rz rf (.slice sa sn sc) (.slice oa on oc) (.slice xa xn xc) (.slice ya yn yc) S1 OS RS RL wr) ∧ Hid (wr.heap[bX]? = some (.cells #[.int .i64 pz, .int .i64 pf, .slice pa pn pc] 25 (0, 0))) ∧ Hid (wr.heap[bF]? = some (.cells #[.slice ya yn yc, .slice da dn dc] 26 (0, 0))) ∧ Hid (Lis d wr (.slice da dn dc) DL)) (fun i _ => (2 - intOf i).toNat)
                        case atStart => exact ⟨0, by omega, rfl, O6, PX6, PF, DD6⟩
                        case round =>
                          clear O6 PX6 PF DD6
                          obtain ⟨j, hj, rfl, O6, PX6, PF, DD6⟩ := hrel
                          by_cases hjk : j < 2
                          · obtain ⟨la, ln, lc, QL, ck, hq⟩ : ∃ (la : Option Addr) (ln lc : Nat) (QL : LP), wr.cell? ⟨bF, j, none⟩ = some (.slice la ln lc) ∧ ∀ wz, MX wb d a0 len0 cap0 z0 bP sz sf oz of_ rz rf (.slice sa sn sc) (.slice oa on oc) (.slice xa xn xc) (.slice ya yn yc) S1 OS RS RL wz → Lis d wz (.slice da dn dc) DL → Lis d wz (.slice la ln lc) QL := by
                              rw [cell_of_row wr bF j _ _ _ PF.out]
                              rcases (show j = 0 ∨ j = 1 by omega) with rfl | rfl
                              · exact ⟨_, _, _, _, rfl, fun wz o _ => o.l⟩
                              · exact ⟨_, _, _, _, rfl, fun wz _ o => o⟩
                            have HQ := Lib.hid hq
                            have bj : (j : Int) < 2 := by omega
                            clear hq
                            go_wp2_with fail
                            refine (next_any 6 O6.out.di (by omega) (by omega)).mono ?_
                            rintro e w9 ⟨⟨y4, rfl, y40, y49⟩, hl⟩
                            have O9 := Lib.hid (O6.out.left hl)
                            replace PX6 := Lib.hid ((hl.far.block bX (Array.getElem?_eq_some_iff.1 PX6.out).1 (by simpa using NX)).trans PX6.out)
                            replace PF := Lib.hid ((hl.far.block bF (Array.getElem?_eq_some_iff.1 PF.out).1 (by simpa using NF)).trans PF.out)
                            replace DD6 := Lib.hid (DD6.out.left hl)
                            clear hl O6 ck
                            have yw : IntKind.i64.wrap (y4 - 1) = y4 - 1 := IntWalk.i64_in _ (by omega)
                            go_upto_region 34 with fail
                            obtain ⟨wG, hwG⟩ : ∃ wG, wG = w9.alloc (.cells #[.int .i64 amo, .int .i64 (y4 - 1), .int .i64 16] 3) := ⟨_, rfl⟩
                            obtain ⟨bG, hbG⟩ : ∃ bG, bG = w9.heap.size := ⟨_, rfl⟩
                            have PG := Lib.hid (show wG.heap[bG]? = some (.cells #[.int .i64 amo, .int .i64 (y4 - 1), .int .i64 16] 3 (0, 0)) by rw [hwG, hbG]; exact heap_alloc_new w9 _)
                            have BG : Below w9.heap.size w9 wG := by rw [hwG]; exact new_block _
                            have O10 := Lib.hid (O9.out.below BG)
                            have PX7 := Lib.hid (hop3 BG PX6.out)
                            have PF7 := Lib.hid (hop3 BG PF.out)
                            have DD7 := Lib.hid (DD6.out.keep BG)
                            rw [← hwG, ← hbG]
                            clear hwG hbG O9 yw PX6 PF DD6 BG
                            have KG : Hid (∀ wz, Below wG.heap.size wG wz → ∀ i : Nat, i < 3 → ∃ nn : Int, wz.cell? ⟨bG, i, none⟩ = some (.int .i64 nn)) := Lib.hid fun wz hb i hi => by
                              have h : wz.cell? ⟨bG, i, none⟩ = wG.cell? ⟨bG, i, none⟩ := World.cell?_of_block (a := ⟨bG, i, none⟩) (hb.block bG (Array.getElem?_eq_some_iff.1 PG.out).1)
                              rw [h, cell_of_row wG bG i _ _ _ PG.out]
                              rcases (show i = 0 ∨ i = 1 ∨ i = 2 by omega) with rfl | rfl | rfl
                              all_goals exact ⟨_, rfl⟩
                            clear PG
                            have RQ := Lib.hid fun wz (hb : Below wG.heap.size wG wz) => (PQ.out _ O10.out).keep hb
                            have QQ := Lib.hid fun wz (hb : Below wG.heap.size wG wz) => (HQ.out _ O10.out DD7.out).keep hb
                            have hql := (HQ.out _ O10.out DD7.out).len
                            have KX := Lib.hid fun wz (hb : Below wG.heap.size wG wz) => cells3 (hop3 hb PX7.out)
                            have B0' := Lib.hid (Below.refl wG.heap.size wG)
                            go_loopw [212] (fun i wr => ∃ i_ : Nat, i_ ≤ 3 ∧ i = .int .i64 i_ ∧ Hid (Below wG.heap.size wG wr)) (fun i _ => (3 - intOf i).toNat)
                            case atStart => exact ⟨0, by omega, rfl, B0'⟩
                            case round =>
                              clear B0'
                              obtain ⟨i_, hi, rfl, BC⟩ := hrel
                              by_cases hik : i_ < 3
                              · obtain ⟨nn, cn⟩ := KG.out _ BC.out i_ hik
                                have bi : (i_ : Int) < 3 := by omega
                                obtain ⟨k0, k1, k2⟩ := KX.out _ BC.out
                                go_wp2_with fail
                                refine (answer_all pz pf nn (RQ.out _ BC.out).its (by omega) (QQ.out _ BC.out).its (by omega)).mono ?_
                                rintro e w6 ⟨⟨u1, e1, M1, rfl, H1, T1⟩, hb⟩
                                obtain ⟨u1a, u1c, rfl⟩ := Snd.ownI_shape T1
                                have ml := H1.len
                                replace T1 := Lib.hid T1
                                replace H1 := Lib.hid H1
                                replace BC := Lib.hid (Buf.then_ BC.out hb)
                                clear hb k0 k1 k2 cn
                                obtain ⟨k0, k1, k2⟩ := KX.out _ BC.out
                                go_wp2_with fail
                                refine (refanswer_all pz pf nn (RQ.out _ BC.out).its (by omega) (QQ.out _ BC.out).its (by omega)).mono ?_
                                rintro e w7 ⟨⟨u2, e2, M2, rfl, H2, T2⟩, hb⟩
                                obtain ⟨u2a, u2c, rfl⟩ := Snd.ownI_shape T2
                                replace T2 := Lib.hid T2
                                obtain ⟨h1_, h2_⟩ := AnsR.unique H1.out H2
                                subst h1_ h2_
                                replace T1 := Lib.hid (Sp.own_below T1.out hb)
                                replace BC := Lib.hid (Buf.then_ BC.out hb)
                                clear hb k0 k1 k2 H1 H2
                                obtain ⟨mn, hmn⟩ : ∃ mn, mn = M1.length := ⟨_, rfl⟩
                                rw [← hmn] at ml ⊢
                                have J1 := Lib.hid (ints_at T1.out)
                                have J2 := Lib.hid (ints_at T2.out)
                                replace hmn := Lib.hid hmn
                                have d2 : (e1 != e1) = false := by simp
                                have d3 : ((mn : Int) != (mn : Int)) = false := by simp
                                have BI := Lib.hid (Below.refl w7.heap.size w7)
                                clear T1 T2
                                go_wp2_with fail
                                go_loopw [242] (fun i wr => ∃ t : Nat, t ≤ mn ∧ i = .int .i64 t ∧ Hid (Below w7.heap.size w7 wr)) (fun i _ => (mn - intOf i).toNat)
                                case atStart => exact ⟨0, Nat.zero_le _, rfl, BI⟩
                                case round =>
                                  clear BI
                                  obtain ⟨t, ht, rfl, BI⟩ := hrel
                                  by_cases htk : t < mn
                                  · obtain ⟨z, hz⟩ : ∃ z, M1[t]? = some z := ⟨M1[t]'(by rw [← hmn.out]; exact htk), List.getElem?_eq_getElem _⟩
                                    obtain ⟨g1, c1, rfl, lt1, m1⟩ := J1.out t z hz
                                    obtain ⟨g2, c2, rfl, lt2, m2⟩ := J2.out t z hz
                                    have n1 := (BI.out.cell (p := ⟨g1, t, none⟩) lt1).trans m1
                                    have n2 := (BI.out.cell (p := ⟨g2, t, none⟩) lt2).trans m2
                                    have bt : (t : Int) < mn := by omega
                                    have d4 : (z != z) = false := by simp
                                    clear m1 m2 hz
                                    go_wp2_with fail
                                    go_quiet (fail)
                                    go_wp2_with fail
                                    go_roundw
                                    case rel => exact ⟨t + 1, by omega, by go_num, Lib.hid (Buf.below_drewN BI.out _)⟩
                                    case measure => simp [intOf]; omega
                                  · have hge : (mn : Int) ≤ t := by omega
                                    replace BC := Lib.hid (Buf.then_ BC.out BI.out)
                                    clear BI J1 J2
                                    go_wp2_with fail
                                    go_roundw
                                    case rel => exact ⟨i_ + 1, by omega, by go_num, BC⟩
                                    case measure => simp [intOf]; omega
                              · obtain rfl : i_ = 3 := by omega
                                have OZ := Lib.hid (O10.out.below BC.out)
                                have PXZ := Lib.hid (hop3 BC.out PX7.out)
                                have PFZ := Lib.hid (hop3 BC.out PF7.out)
                                have DDZ := Lib.hid (DD7.out.keep BC.out)
                                clear O10 PX7 PF7 DD7 KG RQ QQ KX hi hik BC
                                go_wp2_with fail
                                go_roundw
                                case rel => exact ⟨j + 1, by omega, by go_num, OZ, PXZ, PFZ, DDZ⟩
                                case measure => simp [intOf]; omega
                          · obtain rfl : j = 2 := by omega
                            clear PX6 PF DD6 hj hjk
                            go_wp2_with fail
                            go_roundw
                            case rel => first | exact ⟨jo + 1, by omega, by go_num, O6⟩ | exact ⟨_, ⟨jo + 1, by omega, by go_num, O6⟩, rfl⟩
                            case measure => simp [intOf]; omega
              · obtain rfl : jo = 3 := by omega
                have B9 := Lib.hid (Buf.then_ B0.out O.out.di.bel)
                clear O
                go_wp2_with fail
                refine (new_all asz).mono ?_
                rintro e w6 ⟨hv6, hb6⟩
                obtain ⟨z1, z2, z3, hz6, hn6⟩ : ∃ (x y er : Int), e = .returned (.tuple #[.agg #[.int .i64 x, .int .i64 y, .slice none 0 0], .int .i64 er]) ∧ ((1 ≤ asz ∧ asz ≤ 256) → x = asz ∧ y = 0 ∧ er = 0) ∧ (¬ (1 ≤ asz ∧ asz ≤ 256) → x = 0 ∧ y = 0 ∧ er = 2) := by
                  rcases hv6 with ⟨c, h⟩ | ⟨c, h⟩
                  · exact ⟨_, _, _, h, fun _ => ⟨rfl, rfl, rfl⟩, fun n => absurd c n⟩
                  · exact ⟨_, _, _, h, fun n => absurd n c, fun _ => ⟨rfl, rfl, rfl⟩⟩
                subst hz6
                replace hn6 := Lib.hid hn6
                clear hv6
                replace B9 := Lib.hid (Buf.then_ B9.out hb6)
                clear hb6
                go_upto_region 50 with fail
                obtain ⟨v1, hv1⟩ : ∃ wz, wz = w6.alloc (.cells #[.int .i64 z1, .int .i64 z2, .slice none 0 0] 25) := ⟨_, rfl⟩
                obtain ⟨s1, hs1⟩ : ∃ bz, bz = w6.heap.size := ⟨_, rfl⟩
                have hb : Below w6.heap.size w6 v1 := by rw [hv1]; exact new_block _
                have Q1 := Lib.hid (show v1.heap[s1]? = some (.cells #[.int .i64 z1, .int .i64 z2, .slice none 0 0] 25 (0, 0)) by rw [hv1, hs1]; exact heap_alloc_new w6 _)
                replace B9 := Lib.hid (Buf.then_ B9.out hb)
                rw [← hv1, ← hs1]
                clear hv1 hs1 hb
                go_wp2_with fail
                refine (refnew_all asz).mono ?_
                rintro e w7 ⟨hv7, hb⟩
                obtain ⟨x1, x2, x3, hz7, hn7⟩ : ∃ (x y er : Int), e = .returned (.tuple #[.agg #[.int .i64 x, .int .i64 y, .slice none 0 0], .int .i64 er]) ∧ ((1 ≤ asz ∧ asz ≤ 256) → x = asz ∧ y = 0 ∧ er = 0) ∧ (¬ (1 ≤ asz ∧ asz ≤ 256) → x = 0 ∧ y = 0 ∧ er = 2) := by
                  rcases hv7 with ⟨c, h⟩ | ⟨c, h⟩
                  · exact ⟨_, _, _, h, fun _ => ⟨rfl, rfl, rfl⟩, fun n => absurd c n⟩
                  · exact ⟨_, _, _, h, fun n => absurd n c, fun _ => ⟨rfl, rfl, rfl⟩⟩
                subst hz7
                clear hv7
                obtain ⟨r1_, r2_, r3_⟩ : z1 = x1 ∧ z2 = x2 ∧ z3 = x3 := by
                  by_cases c : 1 ≤ asz ∧ asz ≤ 256
                  · obtain ⟨a1, a2, a3⟩ := hn6.out.1 c
                    obtain ⟨b1, b2, b3⟩ := hn7.1 c
                    exact ⟨by omega, by omega, by omega⟩
                  · obtain ⟨a1, a2, a3⟩ := hn6.out.2 c
                    obtain ⟨b1, b2, b3⟩ := hn7.2 c
                    exact ⟨by omega, by omega, by omega⟩
                subst r1_ r2_ r3_
                replace Q1 := Lib.hid (hop3 hb Q1.out)
                replace B9 := Lib.hid (Buf.then_ B9.out hb)
                clear hb hn6 hn7
                go_upto_region 51 with fail
                obtain ⟨v2, hv2⟩ : ∃ wz, wz = w7.alloc (.cells #[.int .i64 z1, .int .i64 z2, .slice none 0 0] 25) := ⟨_, rfl⟩
                obtain ⟨s2, hs2⟩ : ∃ bz, bz = w7.heap.size := ⟨_, rfl⟩
                have hb : Below w7.heap.size w7 v2 := by rw [hv2]; exact new_block _
                have Q2 := Lib.hid (show v2.heap[s2]? = some (.cells #[.int .i64 z1, .int .i64 z2, .slice none 0 0] 25 (0, 0)) by rw [hv2, hs2]; exact heap_alloc_new w7 _)
                replace B9 := Lib.hid (Buf.then_ B9.out hb)
                replace Q1 := Lib.hid (hop3 hb Q1.out)
                rw [← hv2, ← hs2]
                clear hv2 hs2 hb
                obtain ⟨k0, k1, k2⟩ := cells3 Q1.out
                obtain ⟨k3, k4, k5⟩ := cells3 Q2.out
                have d1 : (z3 == z3) = true := by simp
                go_wp2_with (first | (go_at_call 14; refine (same_all z1 z2 (Stw.nil _) (Stw.nil _) (by simp)).mono ?_; rintro e w8 ⟨rfl, h8⟩) | (go_at_call 7; refine (SN.out _).mono ?_; rintro e w9 ⟨rfl, h9⟩))
                go_ret
                exact ⟨rfl, Buf.then_ (Buf.then_ B9.out h8) h9⟩
        · have hd4 : decide ((20 : Int) < (yn : Int)) = true := decide_eq_true (by omega)
          go_wp2_with (first | (go_at_call 6; refine (light_any _ _ _ _).mono ?_; rintro e w1 ⟨rfl, hw⟩; replace hw := hw.symm; subst hw; rw [hd]) | (go_at_call 7; refine (SN.out _).mono ?_; rintro e w2 ⟨rfl, hb⟩))
          go_ret
          exact ⟨rfl, Buf.then_ B0.out hb⟩
      · have hd3 : decide ((300 : Int) < (ba.size : Int)) = true := decide_eq_true (by omega)
        go_wp2_with (first | (go_at_call 6; refine (light_any _ _ _ _).mono ?_; rintro e w1 ⟨rfl, hw⟩; replace hw := hw.symm; subst hw; rw [hd]) | (go_at_call 7; refine (SN.out _).mono ?_; rintro e w2 ⟨rfl, hb⟩))
        go_ret
        exact ⟨rfl, Buf.then_ B0.out hb⟩
    · have hd2 : decide ((40 : Int) < (xn : Int)) = true := decide_eq_true (by omega)
      go_wp2_with (first | (go_at_call 6; refine (light_any _ _ _ _).mono ?_; rintro e w1 ⟨rfl, hw⟩; replace hw := hw.symm; subst hw; rw [hd]) | (go_at_call 7; refine (SN.out _).mono ?_; rintro e w2 ⟨rfl, hb⟩))
      go_ret
      exact ⟨rfl, Buf.then_ B0.out hb⟩
  · have hd : decide ((len0 : Int) ≤ 500) = false := by simp; omega
    go_wp2_with (first | (go_at_call 6; refine (light_any _ _ _ _).mono ?_; rintro e w1 ⟨rfl, hw⟩; replace hw := hw.symm; subst hw; rw [hd]) | (go_at_call 7; refine (SN.out _).mono ?_; rintro e w2 ⟨rfl, hb⟩))
    go_ret
    exact ⟨rfl, Buf.then_ B0.out hb⟩
end Laws
end Go.Proofs.Ytganalieljmkmaa
