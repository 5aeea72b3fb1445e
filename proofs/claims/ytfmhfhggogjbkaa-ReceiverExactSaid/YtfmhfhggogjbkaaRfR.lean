/- (*Dice).Receiver. -/
import Derived.Test.YtfmhfhggogjbkaaRfAL
import Derived.Test.YtfmhfhggogjbkaaRcvF
set_option linter.unusedVariables false
set_option linter.unusedSimpArgs false
namespace Go.Proofs.Ytfmhfhggogjbkaa
open Go.RowKit Dice Wi
namespace Rcv
open Spn
/-- What a step in a region may change: the dice. -/
def RD2 (wa wb : World) (d : Nat) : Prop := wa.grownBy wb (some d) ∧ wb.cell? ⟨d, 0, none⟩ = wa.cell? ⟨d, 0, none⟩
theorem rd2_refl (w : World) (d : Nat) : RD2 w w d := ⟨grown_of_below (Below.refl _ _), rfl⟩
theorem dcell2 {W w : World} {d : Nat} {a : Option Addr} {len cap : Nat} {zs : List Int} (h : Di W w d a len cap zs) : w.cell? ⟨d, 0, none⟩ = some (.slice a len cap) := by
  obtain ⟨p, _, hb⟩ := h.blk
  exact (Di.cells hb).1
theorem dc2_ne {w : World} {d : Nat} {a : Option Addr} {len cap : Nat} (h : w.cell? ⟨d, 0, none⟩ = some (.slice a len cap)) : ∀ x : Int, w.cell? ⟨d, 0, none⟩ ≠ some (.int .i64 x) := fun x e => by rw [h] at e; cases e
theorem rd2_left {W w w' : World} {d : Nat} {a : Option Addr} {len cap : Nat} {zs : List Int} (h : Di W w d a len cap zs) (hl : Dice.Left W w w' d a len cap zs) : RD2 w w' d := ⟨hl.far, (dcell2 hl.di).trans (dcell2 h).symm⟩
theorem rd2_below {W w w' : World} {d : Nat} {a : Option Addr} {len cap : Nat} {zs : List Int} (h : Di W w d a len cap zs) (hb : Below w.heap.size w w') : RD2 w w' d := ⟨grown_of_below hb, World.cell?_of_block (a := ⟨d, 0, none⟩) (hb.block d h.lt)⟩
/-- The memory of the loop. -/
structure RN (W w0 : World) (d : Nat) (a : Option Addr) (len cap : Nat) (zs : List Int) (b2 b3 : Nat) (x1 : Option Addr) (n1 c1 : Nat) (x2 : Option Addr) (n2 c2 : Nat) (f g : Int → Bool) (wr : World) : Prop where
  L : Dice.Left W w0 wr d a len cap zs
  P : wr.heap[b3]? = some (.cells #[.slice x1 n1 c1, .slice x2 n2 c2] 46 (0, 0))
  P2 : wr.heap[b2]? = some (.cells #[.slice none 0 0, .slice none 0 0] 46 (0, 0))
  R : Rc wr (.slice x1 n1 c1) (.slice x2 n2 c2) f g
  h : Di W w0 d a len cap zs
  h3 : w0.heap.size ≤ b3
  h2 : w0.heap.size ≤ b2
  ne : b2 ≠ b3
section
variable {W w0 : World} {d : Nat} {a : Option Addr} {len cap : Nat} {zs : List Int} {b2 b3 : Nat} {x1 : Option Addr} {n1 c1 : Nat} {x2 : Option Addr} {n2 c2 : Nat} {f g : Int → Bool} {wr : World}
theorem RN.left {w' : World} (o : RN W w0 d a len cap zs b2 b3 x1 n1 c1 x2 n2 c2 f g wr) (hl : Dice.Left W wr w' d a len cap zs) : RN W w0 d a len cap zs b2 b3 x1 n1 c1 x2 n2 c2 f g w' :=
  ⟨o.L.trans hl, (hl.far.block b3 (Array.getElem?_eq_some_iff.1 o.P).1 (by have := o.h.lt; have := o.h3; simp; omega)).trans o.P, (hl.far.block b2 (Array.getElem?_eq_some_iff.1 o.P2).1 (by have := o.h.lt; have := o.h2; simp; omega)).trans o.P2, o.R.far hl.far (dice_cell o.L.di), o.h, o.h3, o.h2, o.ne⟩
theorem RN.below {w' : World} (o : RN W w0 d a len cap zs b2 b3 x1 n1 c1 x2 n2 c2 f g wr) (hb : Below wr.heap.size wr w') : RN W w0 d a len cap zs b2 b3 x1 n1 c1 x2 n2 c2 f g w' :=
  ⟨o.L.below hb, hop hb o.P, hop hb o.P2, o.R.keep hb, o.h, o.h3, o.h2, o.ne⟩
theorem RN.put (o : RN W w0 d a len cap zs b2 b3 x1 n1 c1 x2 n2 c2 f g wr) {y1 : Option Addr} {m1 d1 : Nat} {y2 : Option Addr} {m2 d2 : Nat} {f' g' : Int → Bool} (r : Rc wr (.slice y1 m1 d1) (.slice y2 m2 d2) f' g') :
    RN W w0 d a len cap zs b2 b3 y1 m1 d1 y2 m2 d2 f' g' (wr.setRow b3 #[.slice y1 m1 d1, .slice y2 m2 d2]) :=
  ⟨Dice.Left.past o.h o.L (Mid.below_row (Below.refl _ _) b3 _ o.h3), setRow_heap _ _ _ _ _ _ o.P, (setRow_other _ _ _ _ o.ne).trans o.P2, r.set o.P _ _ _ _ _ _, o.h, o.h3, o.h2, o.ne⟩
end
set_option maxHeartbeats 16000000 in
set_option maxRecDepth 100000 in
theorem receiver_any {W w : World} {d : Nat} {a : Option Addr} {len cap : Nat} {zs : List Int} (h : Di W w d a len cap zs) :
    Calls Try.prog 38 #[.pointer (some ⟨d, 0, none⟩)] w fun e w' => (∃ vg vl f g, e = .returned (.agg #[vg, vl]) ∧ Rc w' vg vl f g) ∧ Dice.Left W w w' d a len cap zs := by
  have HD := Lib.hid h
  clear h
  go_enter Try.func38, Try.ntmps38
  go_upto_region 1 with fail
  obtain ⟨b2, hb2⟩ : ∃ b2, b2 = w.heap.size := ⟨_, rfl⟩
  obtain ⟨wa, hwa⟩ : ∃ wa, wa = w.alloc (.cells #[.slice none 0 0, .slice none 0 0] 46) := ⟨_, rfl⟩
  have PA : wa.heap[b2]? = some (.cells #[.slice none 0 0, .slice none 0 0] 46 (0, 0)) := by rw [hwa, hb2]; exact heap_alloc_new w _
  have BA := Lib.hid (show Below w.heap.size w wa by rw [hwa]; exact new_block _)
  rw [← hwa, ← hb2]
  have z2 : w.heap.size ≤ b2 := by omega
  clear hwa hb2
  go_wp2_with fail
  refine (refnew_any _).mono ?_
  rintro e w3 ⟨rfl, hb3⟩
  have PB := hop (new_block (.cells #[.slice none 0 0, .slice none 0 0] 46)) (hop hb3 PA)
  have BB := Lib.hid (Buf.then_ (Buf.then_ BA.out hb3) (new_block (.cells #[.slice none 0 0, .slice none 0 0] 46)))
  have z3 : w.heap.size ≤ w3.heap.size := (Buf.then_ BA.out hb3).size
  have z23 : b2 ≠ w3.heap.size := by have := (Array.getElem?_eq_some_iff.1 (hop hb3 PA)).1; omega
  have O0 : RN W w d a len cap zs b2 w3.heap.size none 0 0 none 0 0 (fun _ => false) (fun _ => false) (w3.alloc (.cells #[.slice none 0 0, .slice none 0 0] 46)) := ⟨(Left.refl HD.out).below BB.out, heap_alloc_new w3 _, PB, rc_new _, HD.out, z3, z2, z23⟩
  have O1 := Lib.hid (O0.put (rc_new _))
  have N3 := Lib.hid O0.P
  clear PA PB BA BB hb3 O0 z3 z23
  go_upto_region 2 with (first | ((with_reducible refine Mid.str 46 (.tmp 3) (.tmp 5) w3.heap.size 46 #[.slice none 0 0, .slice none 0 0] #[.slice none 0 0, .slice none 0 0] N3.out ?_ ?_ ?_ ?_ ?_ ?_ ?_ ?_); (· rfl); (· rfl); (· first | rfl | simp [Act.eval]); (· first | rfl | simp [Act.eval]); (· kernel_rfl); (· rfl); (· simp [Value.oneCell'])) | fail)
  obtain ⟨b3, hb3⟩ : ∃ b3, b3 = w3.heap.size := ⟨_, rfl⟩
  obtain ⟨w4, hw4⟩ : ∃ w4, w4 = (w3.alloc (.cells #[.slice none 0 0, .slice none 0 0] 46)).setRow b3 #[.slice none 0 0, .slice none 0 0] := ⟨_, rfl⟩
  rw [← hb3] at O1 ⊢
  rw [← hw4] at O1 ⊢
  clear hw4 N3 hb3
  go_wp2_with fail
  refine (next_any 12 O1.out.L.di (by omega) (by omega)).mono ?_
  rintro e w5 ⟨⟨i, rfl, i1, i2⟩, hl⟩
  replace O1 := Lib.hid (O1.out.left hl)
  clear hl
  go_wp2_with fail
  go_loopw [4] (fun c wr => ∃ (kc : Int) (x1 : Option Addr) (n1 c1 : Nat) (x2 : Option Addr) (n2 c2 : Nat) (f g : Int → Bool), 0 ≤ kc ∧ kc ≤ 12 ∧ c = .int .i64 kc ∧ Hid (RN W w d a len cap zs b2 b3 x1 n1 c1 x2 n2 c2 f g wr)) (fun c _ => (intOf c).toNat)
  case atStart => exact ⟨i, _, _, _, _, _, _, _, _, by omega, by omega, rfl, O1⟩
  case round =>
    clear O1
    obtain ⟨kc, x1, n1, c1, x2, n2, c2, f, g, kc0, kc9, rfl, O⟩ := hrel
    by_cases hk : 0 < kc
    · go_wp2_with fail
      refine (next_any 5 O.out.L.di (by omega) (by omega)).mono ?_
      rintro e wA ⟨⟨v5, rfl, v0, v9⟩, hl⟩
      replace O := Lib.hid (O.out.left hl)
      clear hl
      by_cases hv : v5 = 0
      · subst hv
        go_upto_region 6 with fail
        have hw0 : RN W w d a len cap zs b2 b3 x1 n1 c1 x2 n2 c2 f g wA.drew := O.out.below (Below.refl _ _).drew
        clear O
        refine wp_region_noPanic ?_
        refine wp_region_any (by kernel_rfl) ?_
        refine Inv.wpAny_inv2 (fun k => k == 7) 6 99 [16, 17, 18, 19, 15, 20, 21] (fun w' => RN W w d a len cap zs b2 b3 x1 n1 c1 x2 n2 c2 f g w') (fun _ w1 w2 => RD2 w1 w2 d) (fun k => ([fun v_ w_ => v_ = .agg #[.slice x1 n1 c1, .slice x2 n2 c2], fun v_ w_ => v_ = .pointer (some ⟨d, 0, none⟩), fun v_ w_ => ∃ q : Int, v_ = .int .i64 q ∧ 0 ≤ q ∧ q < 10, fun v_ w_ => ∃ a_ n c a' n' c', v_ = .tuple #[.agg #[.slice a_ n c, .slice a' n' c'], .int .i64 0] ∧ (∃ f' g', Rc w_ (.slice a_ n c) (.slice a' n' c') f' g') ∧ w_.cell? ⟨d, 0, none⟩ = some (.slice a len cap), fun v_ w_ => ∃ a_ n c a' n' c', v_ = .tuple #[.agg #[.slice a_ n c, .slice a' n' c'], .int .i64 0] ∧ (∃ f' g', Rc w_ (.slice a_ n c) (.slice a' n' c') f' g') ∧ w_.cell? ⟨d, 0, none⟩ = some (.slice a len cap), fun v_ w_ => ∃ a_ n c a' n' c', v_ = .agg #[.slice a_ n c, .slice a' n' c'] ∧ (∃ f' g', Rc w_ (.slice a_ n c) (.slice a' n' c') f' g') ∧ w_.cell? ⟨d, 0, none⟩ = some (.slice a len cap), fun v_ w_ => True, fun v_ w_ => True] : List (Value → World → Prop)).getD k (fun _ _ => True)) _ (fun σ => by simp only [Inv.putAll, List.foldl_cons, List.foldl_nil, Act.put, List.setIfInBounds_toArray, List.set_cons_zero, List.set_cons_succ]; rfl) (by kernel_rfl) (by kernel_rfl) (by decide) ?_ hw0 ?_ ?_ (fun b1 b2 => cond b1 1 2) (fun b1 b2 => #[true, true, true, true, true, true, b1, false]) (by intro b1 b2; cases b1 <;> cases b2 <;> kernel_rfl) (by intro b1 b2; cases b1 <;> cases b2 <;> kernel_rfl) (by exact ⟨rfl, rfl⟩) ?_
        · intro j k v w1 w2 hjk hv hr
          rcases k with _ | k
          · exact hv
          rcases k with _ | k
          · exact hv
          rcases k with _ | k
          · exact hv
          rcases k with _ | k
          · exact by obtain ⟨a_, n, c, a', n', c', e, ⟨fz, gz, h⟩, dc⟩ := hv; exact ⟨a_, n, c, a', n', c', e, ⟨fz, gz, h.far hr.1 (dc2_ne dc)⟩, hr.2.trans dc⟩
          rcases k with _ | k
          · exact by obtain ⟨a_, n, c, a', n', c', e, ⟨fz, gz, h⟩, dc⟩ := hv; exact ⟨a_, n, c, a', n', c', e, ⟨fz, gz, h.far hr.1 (dc2_ne dc)⟩, hr.2.trans dc⟩
          rcases k with _ | k
          · exact by obtain ⟨a_, n, c, a', n', c', e, ⟨fz, gz, h⟩, dc⟩ := hv; exact ⟨a_, n, c, a', n', c', e, ⟨fz, gz, h.far hr.1 (dc2_ne dc)⟩, hr.2.trans dc⟩
          rcases k with _ | k
          · exact hv
          rcases k with _ | k
          · exact hv
          · exact hv
        · intro k t hl hd
          rcases k with _ | k
          · exact absurd hl (by decide +kernel)
          rcases k with _ | k
          · exact absurd hl (by decide +kernel)
          rcases k with _ | k
          · exact absurd hl (by decide +kernel)
          rcases k with _ | k
          · exact absurd hl (by decide +kernel)
          rcases k with _ | k
          · exact absurd hl (by decide +kernel)
          rcases k with _ | k
          · exact absurd hl (by decide +kernel)
          rcases k with _ | k
          · exact absurd hl (by decide +kernel)
          rcases k with _ | k
          · exact absurd hl (by decide +kernel)
          · simp at hd
        · show Inv.Steps _ _ _ _ _ _ _ _ [0, 1, 2, 3, 4, 5, 6]
          refine Inv.Steps.go (by decide) (by rfl) (fun σ wx hw hd K hK => ?_) ?_
          · simp only [List.getElem_toArray, List.getElem_cons_zero, List.getElem_cons_succ, Act.put, List.setIfInBounds_toArray, List.set_cons_zero, List.set_cons_succ] at hK ⊢
            refine wp_load_row 46 (.tmp 3) rfl b3 rfl 46 #[.slice x1 n1 c1, .slice x2 n2 c2] (0, 0) _ hw.P rfl rfl rfl ?_
            simp only [Act.put, List.setIfInBounds_toArray, List.set_cons_zero, List.set_cons_succ]
            exact hK.out _ _ hw (rd2_refl _ _) (rfl)
          refine Inv.Steps.go (by decide) (by rfl) (fun σ wx hw hd K hK => ?_) ?_
          · simp only [List.getElem_toArray, List.getElem_cons_zero, List.getElem_cons_succ, Act.put, List.setIfInBounds_toArray, List.set_cons_zero, List.set_cons_succ] at hK ⊢
            go_simp
            exact hK.out _ _ hw (rd2_refl _ _) (rfl)
          refine Inv.Steps.go (by decide) (by rfl) (fun σ wx hw hd K hK => ?_) ?_
          · obtain e17 : (σ 17) = .pointer (some ⟨d, 0, none⟩) := hd 1 (some 17) (by kernel_rfl) (by rfl)
            simp only [List.getElem_toArray, List.getElem_cons_zero, List.getElem_cons_succ, Act.put, List.setIfInBounds_toArray, List.set_cons_zero, List.set_cons_succ, e17] at hK ⊢
            go_simp
            go_at_call 26
            refine (next_any 10 hw.L.di (by omega) (by omega)).mono ?_
            rintro e w1 ⟨⟨q, rfl, q0, q9⟩, hl⟩
            dsimp only
            exact hK.out _ _ (hw.left hl) (rd2_left hw.L.di hl) (⟨q, rfl, q0, q9⟩)
          refine Inv.Steps.go (by decide) (by rfl) (fun σ wx hw hd K hK => ?_) ?_
          · obtain e16 : (σ 16) = .agg #[.slice x1 n1 c1, .slice x2 n2 c2] := hd 0 (some 16) (by kernel_rfl) (by rfl)
            obtain ⟨q, e18, q0, q9⟩ : ∃ q : Int, (σ 18) = .int .i64 q ∧ 0 ≤ q ∧ q < 10 := hd 2 (some 18) (by kernel_rfl) (by rfl)
            simp only [List.getElem_toArray, List.getElem_cons_zero, List.getElem_cons_succ, Act.put, List.setIfInBounds_toArray, List.set_cons_zero, List.set_cons_succ, e16, e18] at hK ⊢
            go_simp
            go_at_call 42
            refine (reflose_any hw.R q (by omega) (by omega)).mono ?_
            rintro e w1 ⟨⟨vg, vl, rfl, R3⟩, hb⟩
            dsimp only
            obtain ⟨xa, xn, xc, ya, yn, yc, rfl, rfl⟩ := Rc.form R3
            exact hK.out _ _ (hw.below hb) (rd2_below hw.L.di hb) (⟨_, _, _, _, _, _, rfl, ⟨_, _, R3⟩, dcell2 (hw.below hb).L.di⟩)
          refine Inv.Steps.go (by decide) (by rfl) (fun σ wx hw hd K hK => ?_) ?_
          · obtain ⟨y1, m1, d1, y2, m2, d2, e19, ⟨fz, gz, LX⟩, DC⟩ : ∃ a_ n c a' n' c', (σ 19) = .tuple #[.agg #[.slice a_ n c, .slice a' n' c'], .int .i64 0] ∧ (∃ f' g', Rc wx (.slice a_ n c) (.slice a' n' c') f' g') ∧ wx.cell? ⟨d, 0, none⟩ = some (.slice a len cap) := hd 3 (some 19) (by kernel_rfl) (by rfl)
            simp only [List.getElem_toArray, List.getElem_cons_zero, List.getElem_cons_succ, Act.put, List.setIfInBounds_toArray, List.set_cons_zero, List.set_cons_succ, e19] at hK ⊢
            go_simp
            exact hK.out _ _ hw (rd2_refl _ _) (⟨_, _, _, _, _, _, rfl, ⟨fz, gz, LX⟩, DC⟩)
          refine Inv.Steps.go (by decide) (by rfl) (fun σ wx hw hd K hK => ?_) ?_
          · obtain ⟨y1, m1, d1, y2, m2, d2, e15, ⟨fz, gz, LX⟩, DC⟩ : ∃ a_ n c a' n' c', (σ 15) = .tuple #[.agg #[.slice a_ n c, .slice a' n' c'], .int .i64 0] ∧ (∃ f' g', Rc wx (.slice a_ n c) (.slice a' n' c') f' g') ∧ wx.cell? ⟨d, 0, none⟩ = some (.slice a len cap) := hd 4 (some 15) (by kernel_rfl) (by rfl)
            simp only [List.getElem_toArray, List.getElem_cons_zero, List.getElem_cons_succ, Act.put, List.setIfInBounds_toArray, List.set_cons_zero, List.set_cons_succ, e15] at hK ⊢
            go_simp
            exact hK.out _ _ hw (rd2_refl _ _) (⟨_, _, _, _, _, _, rfl, ⟨fz, gz, LX⟩, DC⟩)
          refine Inv.Steps.go (by decide) (by rfl) (fun σ wx hw hd K hK => ?_) ?_
          · obtain ⟨y1, m1, d1, y2, m2, d2, e15, ⟨fz, gz, LX⟩, DC⟩ : ∃ a_ n c a' n' c', (σ 15) = .tuple #[.agg #[.slice a_ n c, .slice a' n' c'], .int .i64 0] ∧ (∃ f' g', Rc wx (.slice a_ n c) (.slice a' n' c') f' g') ∧ wx.cell? ⟨d, 0, none⟩ = some (.slice a len cap) := hd 4 (some 15) (by kernel_rfl) (by rfl)
            simp only [List.getElem_toArray, List.getElem_cons_zero, List.getElem_cons_succ, Act.put, List.setIfInBounds_toArray, List.set_cons_zero, List.set_cons_succ, e15] at hK ⊢
            go_simp
            exact hK.out _ _ hw (rd2_refl _ _) (trivial)
          exact Inv.Steps.nil
        · intro b1 b2 σ wx hw hd
          cases b1 <;> cases b2
          · obtain ⟨y1, m1, d1, y2, m2, d2, e20, ⟨fz, gz, LX⟩, DC⟩ : ∃ a_ n c a' n' c', (σ 20) = .agg #[.slice a_ n c, .slice a' n' c'] ∧ (∃ f' g', Rc wx (.slice a_ n c) (.slice a' n' c') f' g') ∧ wx.cell? ⟨d, 0, none⟩ = some (.slice a len cap) := hd 5 (some 20) (by kernel_rfl) (by decide) (fun h => absurd h (by decide)) (by rfl)
            have HT : ∃ a_ n c a' n' c', (σ 15) = .tuple #[.agg #[.slice a_ n c, .slice a' n' c'], .int .i64 0] ∧ (∃ f' g', Rc wx (.slice a_ n c) (.slice a' n' c') f' g') ∧ wx.cell? ⟨d, 0, none⟩ = some (.slice a len cap) := hd 4 (some 15) (by kernel_rfl) (by decide) (fun h => absurd h (by decide)) (by rfl)
            obtain ⟨z1, z2, z3, z4, z5, z6, eT, _, _⟩ := HT
            simp only [e20, eT]
            refine Inv.take (i := 6) (v := .int .i64 0) (by decide) rfl (by kernel_rfl) (by kernel_rfl) (by kernel_rfl) (fun _ _ _ h => h) (by rfl) (fun w' => ?_) ?_
            · simp only [List.getElem_toArray, List.getElem_cons_zero, List.getElem_cons_succ]
              go_simp
            try simp only [Act.put, List.setIfInBounds_toArray, List.set_cons_zero, List.set_cons_succ]
            obtain ⟨k0, k1_⟩ := Spn.c2 hw.P
            have f0 := frozen_of_row wx b3 0 _ _ hw.P
            have f1 := frozen_of_row wx b3 1 _ _ hw.P
            refine Inv.one (i := 7) (by decide) (by kernel_rfl) (by rfl) (fun K hK => ?_)
            simp only [List.getElem_toArray, List.getElem_cons_zero, List.getElem_cons_succ, Act.put, List.setIfInBounds_toArray, List.set_cons_zero, List.set_cons_succ] at hK ⊢
            go_simp
            refine hK.out _ _ ?_
            clear hK K k0 k1_ f0 f1
            rw [← set_two hw.P]
            refine Inv.done (by kernel_rfl) (NoPanic.normal ?_)
            have O9 := Lib.hid (hw.put LX)
            clear hd hw LX DC e20 eT
            generalize wx.setRow b3 #[.slice y1 m1 d1, .slice y2 m2 d2] = wT at *
            go_wp2_with fail
            go_roundw
            case rel => exact ⟨kc - 1, _, _, _, _, _, _, _, _, by omega, by omega, rfl, O9⟩
            case measure => simp [intOf]; omega
          · obtain ⟨y1, m1, d1, y2, m2, d2, e20, ⟨fz, gz, LX⟩, DC⟩ : ∃ a_ n c a' n' c', (σ 20) = .agg #[.slice a_ n c, .slice a' n' c'] ∧ (∃ f' g', Rc wx (.slice a_ n c) (.slice a' n' c') f' g') ∧ wx.cell? ⟨d, 0, none⟩ = some (.slice a len cap) := hd 5 (some 20) (by kernel_rfl) (by decide) (fun h => absurd h (by decide)) (by rfl)
            have HT : ∃ a_ n c a' n' c', (σ 15) = .tuple #[.agg #[.slice a_ n c, .slice a' n' c'], .int .i64 0] ∧ (∃ f' g', Rc wx (.slice a_ n c) (.slice a' n' c') f' g') ∧ wx.cell? ⟨d, 0, none⟩ = some (.slice a len cap) := hd 4 (some 15) (by kernel_rfl) (by decide) (fun h => absurd h (by decide)) (by rfl)
            obtain ⟨z1, z2, z3, z4, z5, z6, eT, _, _⟩ := HT
            simp only [e20, eT]
            refine Inv.take (i := 6) (v := .int .i64 0) (by decide) rfl (by kernel_rfl) (by kernel_rfl) (by kernel_rfl) (fun _ _ _ h => h) (by rfl) (fun w' => ?_) ?_
            · simp only [List.getElem_toArray, List.getElem_cons_zero, List.getElem_cons_succ]
              go_simp
            try simp only [Act.put, List.setIfInBounds_toArray, List.set_cons_zero, List.set_cons_succ]
            obtain ⟨k0, k1_⟩ := Spn.c2 hw.P
            have f0 := frozen_of_row wx b3 0 _ _ hw.P
            have f1 := frozen_of_row wx b3 1 _ _ hw.P
            refine Inv.one (i := 7) (by decide) (by kernel_rfl) (by rfl) (fun K hK => ?_)
            simp only [List.getElem_toArray, List.getElem_cons_zero, List.getElem_cons_succ, Act.put, List.setIfInBounds_toArray, List.set_cons_zero, List.set_cons_succ] at hK ⊢
            go_simp
            refine hK.out _ _ ?_
            clear hK K k0 k1_ f0 f1
            rw [← set_two hw.P]
            refine Inv.done (by kernel_rfl) (NoPanic.normal ?_)
            have O9 := Lib.hid (hw.put LX)
            clear hd hw LX DC e20 eT
            generalize wx.setRow b3 #[.slice y1 m1 d1, .slice y2 m2 d2] = wT at *
            go_wp2_with fail
            go_roundw
            case rel => exact ⟨kc - 1, _, _, _, _, _, _, _, _, by omega, by omega, rfl, O9⟩
            case measure => simp [intOf]; omega
          · obtain ⟨y1, m1, d1, y2, m2, d2, e20, ⟨fz, gz, LX⟩, DC⟩ : ∃ a_ n c a' n' c', (σ 20) = .agg #[.slice a_ n c, .slice a' n' c'] ∧ (∃ f' g', Rc wx (.slice a_ n c) (.slice a' n' c') f' g') ∧ wx.cell? ⟨d, 0, none⟩ = some (.slice a len cap) := hd 5 (some 20) (by kernel_rfl) (by decide) (fun h => absurd h (by decide)) (by rfl)
            have HT : ∃ a_ n c a' n' c', (σ 15) = .tuple #[.agg #[.slice a_ n c, .slice a' n' c'], .int .i64 0] ∧ (∃ f' g', Rc wx (.slice a_ n c) (.slice a' n' c') f' g') ∧ wx.cell? ⟨d, 0, none⟩ = some (.slice a len cap) := hd 4 (some 15) (by kernel_rfl) (by decide) (fun h => absurd h (by decide)) (by rfl)
            obtain ⟨z1, z2, z3, z4, z5, z6, eT, _, _⟩ := HT
            simp only [e20, eT]
            obtain ⟨k0, k1_⟩ := Spn.c2 hw.P
            have f0 := frozen_of_row wx b3 0 _ _ hw.P
            have f1 := frozen_of_row wx b3 1 _ _ hw.P
            refine Inv.one (i := 7) (by decide) (by kernel_rfl) (by rfl) (fun K hK => ?_)
            simp only [List.getElem_toArray, List.getElem_cons_zero, List.getElem_cons_succ, Act.put, List.setIfInBounds_toArray, List.set_cons_zero, List.set_cons_succ] at hK ⊢
            go_simp
            refine hK.out _ _ ?_
            clear hK K k0 k1_ f0 f1
            rw [← set_two hw.P]
            refine Inv.done (by kernel_rfl) (NoPanic.normal ?_)
            have O9 := Lib.hid (hw.put LX)
            clear hd hw LX DC e20 eT
            generalize wx.setRow b3 #[.slice y1 m1 d1, .slice y2 m2 d2] = wT at *
            go_wp2_with fail
            go_roundw
            case rel => exact ⟨kc - 1, _, _, _, _, _, _, _, _, by omega, by omega, rfl, O9⟩
            case measure => simp [intOf]; omega
          · obtain ⟨y1, m1, d1, y2, m2, d2, e20, ⟨fz, gz, LX⟩, DC⟩ : ∃ a_ n c a' n' c', (σ 20) = .agg #[.slice a_ n c, .slice a' n' c'] ∧ (∃ f' g', Rc wx (.slice a_ n c) (.slice a' n' c') f' g') ∧ wx.cell? ⟨d, 0, none⟩ = some (.slice a len cap) := hd 5 (some 20) (by kernel_rfl) (by decide) (fun h => absurd h (by decide)) (by rfl)
            have HT : ∃ a_ n c a' n' c', (σ 15) = .tuple #[.agg #[.slice a_ n c, .slice a' n' c'], .int .i64 0] ∧ (∃ f' g', Rc wx (.slice a_ n c) (.slice a' n' c') f' g') ∧ wx.cell? ⟨d, 0, none⟩ = some (.slice a len cap) := hd 4 (some 15) (by kernel_rfl) (by decide) (fun h => absurd h (by decide)) (by rfl)
            obtain ⟨z1, z2, z3, z4, z5, z6, eT, _, _⟩ := HT
            simp only [e20, eT]
            obtain ⟨k0, k1_⟩ := Spn.c2 hw.P
            have f0 := frozen_of_row wx b3 0 _ _ hw.P
            have f1 := frozen_of_row wx b3 1 _ _ hw.P
            refine Inv.one (i := 7) (by decide) (by kernel_rfl) (by rfl) (fun K hK => ?_)
            simp only [List.getElem_toArray, List.getElem_cons_zero, List.getElem_cons_succ, Act.put, List.setIfInBounds_toArray, List.set_cons_zero, List.set_cons_succ] at hK ⊢
            go_simp
            refine hK.out _ _ ?_
            clear hK K k0 k1_ f0 f1
            rw [← set_two hw.P]
            refine Inv.done (by kernel_rfl) (NoPanic.normal ?_)
            have O9 := Lib.hid (hw.put LX)
            clear hd hw LX DC e20 eT
            generalize wx.setRow b3 #[.slice y1 m1 d1, .slice y2 m2 d2] = wT at *
            go_wp2_with fail
            go_roundw
            case rel => exact ⟨kc - 1, _, _, _, _, _, _, _, _, by omega, by omega, rfl, O9⟩
            case measure => simp [intOf]; omega
      · have hv' : (v5 == 0) = false := by simp [hv]
        go_upto_region 7 with fail
        have hw0 : RN W w d a len cap zs b2 b3 x1 n1 c1 x2 n2 c2 f g wA.drew := O.out.below (Below.refl _ _).drew
        clear O hv hv'
        refine wp_region_noPanic ?_
        refine wp_region_any (by kernel_rfl) ?_
        refine Inv.wpAny_inv2 (fun k => k == 8) 6 7 [23, 24, 25, 26, 22, 27, 28, 29] (fun w' => RN W w d a len cap zs b2 b3 x1 n1 c1 x2 n2 c2 f g w') (fun _ w1 w2 => RD2 w1 w2 d) (fun k => ([fun v_ w_ => v_ = .agg #[.slice x1 n1 c1, .slice x2 n2 c2], fun v_ w_ => v_ = .pointer (some ⟨d, 0, none⟩), fun v_ w_ => ∃ q : Int, v_ = .int .i64 q ∧ 0 ≤ q ∧ q < 14, fun v_ w_ => ∃ a_ n c a' n' c' bz, v_ = .tuple #[.agg #[.slice a_ n c, .slice a' n' c'], .bool bz, .int .i64 0] ∧ (∃ f' g', Rc w_ (.slice a_ n c) (.slice a' n' c') f' g') ∧ w_.cell? ⟨d, 0, none⟩ = some (.slice a len cap), fun v_ w_ => ∃ a_ n c a' n' c' bz, v_ = .tuple #[.agg #[.slice a_ n c, .slice a' n' c'], .bool bz, .int .i64 0] ∧ (∃ f' g', Rc w_ (.slice a_ n c) (.slice a' n' c') f' g') ∧ w_.cell? ⟨d, 0, none⟩ = some (.slice a len cap), fun v_ w_ => ∃ a_ n c a' n' c', v_ = .agg #[.slice a_ n c, .slice a' n' c'] ∧ (∃ f' g', Rc w_ (.slice a_ n c) (.slice a' n' c') f' g') ∧ w_.cell? ⟨d, 0, none⟩ = some (.slice a len cap), fun v_ w_ => True, fun v_ w_ => True, fun v_ w_ => True] : List (Value → World → Prop)).getD k (fun _ _ => True)) _ (fun σ => by simp only [Inv.putAll, List.foldl_cons, List.foldl_nil, Act.put, List.setIfInBounds_toArray, List.set_cons_zero, List.set_cons_succ]; rfl) (by kernel_rfl) (by kernel_rfl) (by decide) ?_ hw0 ?_ ?_ (fun b1 b2 => cond b1 (cond b2 1 2) (cond b2 2 3)) (fun b1 b2 => #[true, true, true, true, true, true, b1, b2, false]) (by intro b1 b2; cases b1 <;> cases b2 <;> kernel_rfl) (by intro b1 b2; cases b1 <;> cases b2 <;> kernel_rfl) (by exact ⟨rfl, rfl⟩) ?_
        · intro j k v w1 w2 hjk hv hr
          rcases k with _ | k
          · exact hv
          rcases k with _ | k
          · exact hv
          rcases k with _ | k
          · exact hv
          rcases k with _ | k
          · exact by obtain ⟨a_, n, c, a', n', c', bz, e, ⟨fz, gz, h⟩, dc⟩ := hv; exact ⟨a_, n, c, a', n', c', bz, e, ⟨fz, gz, h.far hr.1 (dc2_ne dc)⟩, hr.2.trans dc⟩
          rcases k with _ | k
          · exact by obtain ⟨a_, n, c, a', n', c', bz, e, ⟨fz, gz, h⟩, dc⟩ := hv; exact ⟨a_, n, c, a', n', c', bz, e, ⟨fz, gz, h.far hr.1 (dc2_ne dc)⟩, hr.2.trans dc⟩
          rcases k with _ | k
          · exact by obtain ⟨a_, n, c, a', n', c', e, ⟨fz, gz, h⟩, dc⟩ := hv; exact ⟨a_, n, c, a', n', c', e, ⟨fz, gz, h.far hr.1 (dc2_ne dc)⟩, hr.2.trans dc⟩
          rcases k with _ | k
          · exact hv
          rcases k with _ | k
          · exact hv
          rcases k with _ | k
          · exact hv
          · exact hv
        · intro k t hl hd
          rcases k with _ | k
          · exact absurd hl (by decide +kernel)
          rcases k with _ | k
          · exact absurd hl (by decide +kernel)
          rcases k with _ | k
          · exact absurd hl (by decide +kernel)
          rcases k with _ | k
          · exact absurd hl (by decide +kernel)
          rcases k with _ | k
          · exact absurd hl (by decide +kernel)
          rcases k with _ | k
          · exact absurd hl (by decide +kernel)
          rcases k with _ | k
          · exact absurd hl (by decide +kernel)
          rcases k with _ | k
          · exact absurd hl (by decide +kernel)
          rcases k with _ | k
          · exact absurd hl (by decide +kernel)
          · simp at hd
        · show Inv.Steps _ _ _ _ _ _ _ _ [0, 1, 2, 3, 4, 5, 6, 7]
          refine Inv.Steps.go (by decide) (by rfl) (fun σ wx hw hd K hK => ?_) ?_
          · simp only [List.getElem_toArray, List.getElem_cons_zero, List.getElem_cons_succ, Act.put, List.setIfInBounds_toArray, List.set_cons_zero, List.set_cons_succ] at hK ⊢
            refine wp_load_row 46 (.tmp 3) rfl b3 rfl 46 #[.slice x1 n1 c1, .slice x2 n2 c2] (0, 0) _ hw.P rfl rfl rfl ?_
            simp only [Act.put, List.setIfInBounds_toArray, List.set_cons_zero, List.set_cons_succ]
            exact hK.out _ _ hw (rd2_refl _ _) (rfl)
          refine Inv.Steps.go (by decide) (by rfl) (fun σ wx hw hd K hK => ?_) ?_
          · simp only [List.getElem_toArray, List.getElem_cons_zero, List.getElem_cons_succ, Act.put, List.setIfInBounds_toArray, List.set_cons_zero, List.set_cons_succ] at hK ⊢
            go_simp
            exact hK.out _ _ hw (rd2_refl _ _) (rfl)
          refine Inv.Steps.go (by decide) (by rfl) (fun σ wx hw hd K hK => ?_) ?_
          · obtain e24 : (σ 24) = .pointer (some ⟨d, 0, none⟩) := hd 1 (some 24) (by kernel_rfl) (by rfl)
            simp only [List.getElem_toArray, List.getElem_cons_zero, List.getElem_cons_succ, Act.put, List.setIfInBounds_toArray, List.set_cons_zero, List.set_cons_succ, e24] at hK ⊢
            go_simp
            go_at_call 26
            refine (next_any 14 hw.L.di (by omega) (by omega)).mono ?_
            rintro e w1 ⟨⟨q, rfl, q0, q9⟩, hl⟩
            dsimp only
            exact hK.out _ _ (hw.left hl) (rd2_left hw.L.di hl) (⟨q, rfl, q0, q9⟩)
          refine Inv.Steps.go (by decide) (by rfl) (fun σ wx hw hd K hK => ?_) ?_
          · obtain e23 : (σ 23) = .agg #[.slice x1 n1 c1, .slice x2 n2 c2] := hd 0 (some 23) (by kernel_rfl) (by rfl)
            obtain ⟨q, e25, q0, q9⟩ : ∃ q : Int, (σ 25) = .int .i64 q ∧ 0 ≤ q ∧ q < 14 := hd 2 (some 25) (by kernel_rfl) (by rfl)
            simp only [List.getElem_toArray, List.getElem_cons_zero, List.getElem_cons_succ, Act.put, List.setIfInBounds_toArray, List.set_cons_zero, List.set_cons_succ, e23, e25] at hK ⊢
            go_simp
            go_at_call 40
            refine (refaccept_any hw.R q (by omega) (by omega)).mono ?_
            rintro e w1 ⟨⟨vg, vl, rfl, R3⟩, hb⟩
            dsimp only
            obtain ⟨xa, xn, xc, ya, yn, yc, rfl, rfl⟩ := Rc.form R3
            exact hK.out _ _ (hw.below hb) (rd2_below hw.L.di hb) (⟨_, _, _, _, _, _, _, rfl, ⟨_, _, R3⟩, dcell2 (hw.below hb).L.di⟩)
          refine Inv.Steps.go (by decide) (by rfl) (fun σ wx hw hd K hK => ?_) ?_
          · obtain ⟨y1, m1, d1, y2, m2, d2, bz, e26, ⟨fz, gz, LX⟩, DC⟩ : ∃ a_ n c a' n' c' bz, (σ 26) = .tuple #[.agg #[.slice a_ n c, .slice a' n' c'], .bool bz, .int .i64 0] ∧ (∃ f' g', Rc wx (.slice a_ n c) (.slice a' n' c') f' g') ∧ wx.cell? ⟨d, 0, none⟩ = some (.slice a len cap) := hd 3 (some 26) (by kernel_rfl) (by rfl)
            simp only [List.getElem_toArray, List.getElem_cons_zero, List.getElem_cons_succ, Act.put, List.setIfInBounds_toArray, List.set_cons_zero, List.set_cons_succ, e26] at hK ⊢
            go_simp
            exact hK.out _ _ hw (rd2_refl _ _) (⟨_, _, _, _, _, _, _, rfl, ⟨fz, gz, LX⟩, DC⟩)
          refine Inv.Steps.go (by decide) (by rfl) (fun σ wx hw hd K hK => ?_) ?_
          · obtain ⟨y1, m1, d1, y2, m2, d2, bz, e22, ⟨fz, gz, LX⟩, DC⟩ : ∃ a_ n c a' n' c' bz, (σ 22) = .tuple #[.agg #[.slice a_ n c, .slice a' n' c'], .bool bz, .int .i64 0] ∧ (∃ f' g', Rc wx (.slice a_ n c) (.slice a' n' c') f' g') ∧ wx.cell? ⟨d, 0, none⟩ = some (.slice a len cap) := hd 4 (some 22) (by kernel_rfl) (by rfl)
            simp only [List.getElem_toArray, List.getElem_cons_zero, List.getElem_cons_succ, Act.put, List.setIfInBounds_toArray, List.set_cons_zero, List.set_cons_succ, e22] at hK ⊢
            go_simp
            exact hK.out _ _ hw (rd2_refl _ _) (⟨_, _, _, _, _, _, rfl, ⟨fz, gz, LX⟩, DC⟩)
          refine Inv.Steps.go (by decide) (by rfl) (fun σ wx hw hd K hK => ?_) ?_
          · obtain ⟨y1, m1, d1, y2, m2, d2, bz, e22, ⟨fz, gz, LX⟩, DC⟩ : ∃ a_ n c a' n' c' bz, (σ 22) = .tuple #[.agg #[.slice a_ n c, .slice a' n' c'], .bool bz, .int .i64 0] ∧ (∃ f' g', Rc wx (.slice a_ n c) (.slice a' n' c') f' g') ∧ wx.cell? ⟨d, 0, none⟩ = some (.slice a len cap) := hd 4 (some 22) (by kernel_rfl) (by rfl)
            simp only [List.getElem_toArray, List.getElem_cons_zero, List.getElem_cons_succ, Act.put, List.setIfInBounds_toArray, List.set_cons_zero, List.set_cons_succ, e22] at hK ⊢
            go_simp
            exact hK.out _ _ hw (rd2_refl _ _) (trivial)
          refine Inv.Steps.go (by decide) (by rfl) (fun σ wx hw hd K hK => ?_) ?_
          · obtain ⟨y1, m1, d1, y2, m2, d2, bz, e22, ⟨fz, gz, LX⟩, DC⟩ : ∃ a_ n c a' n' c' bz, (σ 22) = .tuple #[.agg #[.slice a_ n c, .slice a' n' c'], .bool bz, .int .i64 0] ∧ (∃ f' g', Rc wx (.slice a_ n c) (.slice a' n' c') f' g') ∧ wx.cell? ⟨d, 0, none⟩ = some (.slice a len cap) := hd 4 (some 22) (by kernel_rfl) (by rfl)
            simp only [List.getElem_toArray, List.getElem_cons_zero, List.getElem_cons_succ, Act.put, List.setIfInBounds_toArray, List.set_cons_zero, List.set_cons_succ, e22] at hK ⊢
            go_simp
            exact hK.out _ _ hw (rd2_refl _ _) (trivial)
          exact Inv.Steps.nil
        · intro b1 b2 σ wx hw hd
          cases b1 <;> cases b2
          · obtain ⟨y1, m1, d1, y2, m2, d2, e27, ⟨fz, gz, LX⟩, DC⟩ : ∃ a_ n c a' n' c', (σ 27) = .agg #[.slice a_ n c, .slice a' n' c'] ∧ (∃ f' g', Rc wx (.slice a_ n c) (.slice a' n' c') f' g') ∧ wx.cell? ⟨d, 0, none⟩ = some (.slice a len cap) := hd 5 (some 27) (by kernel_rfl) (by decide) (by decide) (by rfl)
            have HT : ∃ a_ n c a' n' c' bz, (σ 22) = .tuple #[.agg #[.slice a_ n c, .slice a' n' c'], .bool bz, .int .i64 0] ∧ (∃ f' g', Rc wx (.slice a_ n c) (.slice a' n' c') f' g') ∧ wx.cell? ⟨d, 0, none⟩ = some (.slice a len cap) := hd 4 (some 22) (by kernel_rfl) (by decide) (by decide) (by rfl)
            obtain ⟨z1, z2, z3, z4, z5, z6, bz, eT, _, _⟩ := HT
            simp only [e27, eT]
            refine Inv.take (i := 6) (v := .bool bz) (by decide) rfl (by kernel_rfl) (by kernel_rfl) (by kernel_rfl) (fun _ _ _ h => h) (by rfl) (fun w' => ?_) ?_
            · simp only [List.getElem_toArray, List.getElem_cons_zero, List.getElem_cons_succ]
              go_simp
            try simp only [Act.put, List.setIfInBounds_toArray, List.set_cons_zero, List.set_cons_succ]
            refine Inv.take (i := 7) (v := .int .i64 0) (by decide) rfl (by kernel_rfl) (by kernel_rfl) (by kernel_rfl) (fun _ _ _ h => h) (by rfl) (fun w' => ?_) ?_
            · simp only [List.getElem_toArray, List.getElem_cons_zero, List.getElem_cons_succ]
              go_simp
            try simp only [Act.put, List.setIfInBounds_toArray, List.set_cons_zero, List.set_cons_succ]
            obtain ⟨k0, k1_⟩ := Spn.c2 hw.P
            have f0 := frozen_of_row wx b3 0 _ _ hw.P
            have f1 := frozen_of_row wx b3 1 _ _ hw.P
            refine Inv.one (i := 8) (by decide) (by kernel_rfl) (by rfl) (fun K hK => ?_)
            simp only [List.getElem_toArray, List.getElem_cons_zero, List.getElem_cons_succ, Act.put, List.setIfInBounds_toArray, List.set_cons_zero, List.set_cons_succ] at hK ⊢
            go_simp
            refine hK.out _ _ ?_
            clear hK K k0 k1_ f0 f1
            rw [← set_two hw.P]
            refine Inv.done (by kernel_rfl) (NoPanic.normal ?_)
            have O9 := Lib.hid (hw.put LX)
            clear hd hw LX DC e27 eT
            generalize wx.setRow b3 #[.slice y1 m1 d1, .slice y2 m2 d2] = wT at *
            go_wp2_with fail
            go_roundw
            case rel => exact ⟨kc - 1, _, _, _, _, _, _, _, _, by omega, by omega, rfl, O9⟩
            case measure => simp [intOf]; omega
          · obtain ⟨y1, m1, d1, y2, m2, d2, e27, ⟨fz, gz, LX⟩, DC⟩ : ∃ a_ n c a' n' c', (σ 27) = .agg #[.slice a_ n c, .slice a' n' c'] ∧ (∃ f' g', Rc wx (.slice a_ n c) (.slice a' n' c') f' g') ∧ wx.cell? ⟨d, 0, none⟩ = some (.slice a len cap) := hd 5 (some 27) (by kernel_rfl) (by decide) (by decide) (by rfl)
            have HT : ∃ a_ n c a' n' c' bz, (σ 22) = .tuple #[.agg #[.slice a_ n c, .slice a' n' c'], .bool bz, .int .i64 0] ∧ (∃ f' g', Rc wx (.slice a_ n c) (.slice a' n' c') f' g') ∧ wx.cell? ⟨d, 0, none⟩ = some (.slice a len cap) := hd 4 (some 22) (by kernel_rfl) (by decide) (by decide) (by rfl)
            obtain ⟨z1, z2, z3, z4, z5, z6, bz, eT, _, _⟩ := HT
            simp only [e27, eT]
            refine Inv.take (i := 6) (v := .bool bz) (by decide) rfl (by kernel_rfl) (by kernel_rfl) (by kernel_rfl) (fun _ _ _ h => h) (by rfl) (fun w' => ?_) ?_
            · simp only [List.getElem_toArray, List.getElem_cons_zero, List.getElem_cons_succ]
              go_simp
            try simp only [Act.put, List.setIfInBounds_toArray, List.set_cons_zero, List.set_cons_succ]
            obtain ⟨k0, k1_⟩ := Spn.c2 hw.P
            have f0 := frozen_of_row wx b3 0 _ _ hw.P
            have f1 := frozen_of_row wx b3 1 _ _ hw.P
            refine Inv.one (i := 8) (by decide) (by kernel_rfl) (by rfl) (fun K hK => ?_)
            simp only [List.getElem_toArray, List.getElem_cons_zero, List.getElem_cons_succ, Act.put, List.setIfInBounds_toArray, List.set_cons_zero, List.set_cons_succ] at hK ⊢
            go_simp
            refine hK.out _ _ ?_
            clear hK K k0 k1_ f0 f1
            rw [← set_two hw.P]
            refine Inv.done (by kernel_rfl) (NoPanic.normal ?_)
            have O9 := Lib.hid (hw.put LX)
            clear hd hw LX DC e27 eT
            generalize wx.setRow b3 #[.slice y1 m1 d1, .slice y2 m2 d2] = wT at *
            go_wp2_with fail
            go_roundw
            case rel => exact ⟨kc - 1, _, _, _, _, _, _, _, _, by omega, by omega, rfl, O9⟩
            case measure => simp [intOf]; omega
          · obtain ⟨y1, m1, d1, y2, m2, d2, e27, ⟨fz, gz, LX⟩, DC⟩ : ∃ a_ n c a' n' c', (σ 27) = .agg #[.slice a_ n c, .slice a' n' c'] ∧ (∃ f' g', Rc wx (.slice a_ n c) (.slice a' n' c') f' g') ∧ wx.cell? ⟨d, 0, none⟩ = some (.slice a len cap) := hd 5 (some 27) (by kernel_rfl) (by decide) (by decide) (by rfl)
            have HT : ∃ a_ n c a' n' c' bz, (σ 22) = .tuple #[.agg #[.slice a_ n c, .slice a' n' c'], .bool bz, .int .i64 0] ∧ (∃ f' g', Rc wx (.slice a_ n c) (.slice a' n' c') f' g') ∧ wx.cell? ⟨d, 0, none⟩ = some (.slice a len cap) := hd 4 (some 22) (by kernel_rfl) (by decide) (by decide) (by rfl)
            obtain ⟨z1, z2, z3, z4, z5, z6, bz, eT, _, _⟩ := HT
            simp only [e27, eT]
            refine Inv.take (i := 7) (v := .int .i64 0) (by decide) rfl (by kernel_rfl) (by kernel_rfl) (by kernel_rfl) (fun _ _ _ h => h) (by rfl) (fun w' => ?_) ?_
            · simp only [List.getElem_toArray, List.getElem_cons_zero, List.getElem_cons_succ]
              go_simp
            try simp only [Act.put, List.setIfInBounds_toArray, List.set_cons_zero, List.set_cons_succ]
            obtain ⟨k0, k1_⟩ := Spn.c2 hw.P
            have f0 := frozen_of_row wx b3 0 _ _ hw.P
            have f1 := frozen_of_row wx b3 1 _ _ hw.P
            refine Inv.one (i := 8) (by decide) (by kernel_rfl) (by rfl) (fun K hK => ?_)
            simp only [List.getElem_toArray, List.getElem_cons_zero, List.getElem_cons_succ, Act.put, List.setIfInBounds_toArray, List.set_cons_zero, List.set_cons_succ] at hK ⊢
            go_simp
            refine hK.out _ _ ?_
            clear hK K k0 k1_ f0 f1
            rw [← set_two hw.P]
            refine Inv.done (by kernel_rfl) (NoPanic.normal ?_)
            have O9 := Lib.hid (hw.put LX)
            clear hd hw LX DC e27 eT
            generalize wx.setRow b3 #[.slice y1 m1 d1, .slice y2 m2 d2] = wT at *
            go_wp2_with fail
            go_roundw
            case rel => exact ⟨kc - 1, _, _, _, _, _, _, _, _, by omega, by omega, rfl, O9⟩
            case measure => simp [intOf]; omega
          · obtain ⟨y1, m1, d1, y2, m2, d2, e27, ⟨fz, gz, LX⟩, DC⟩ : ∃ a_ n c a' n' c', (σ 27) = .agg #[.slice a_ n c, .slice a' n' c'] ∧ (∃ f' g', Rc wx (.slice a_ n c) (.slice a' n' c') f' g') ∧ wx.cell? ⟨d, 0, none⟩ = some (.slice a len cap) := hd 5 (some 27) (by kernel_rfl) (by decide) (by decide) (by rfl)
            have HT : ∃ a_ n c a' n' c' bz, (σ 22) = .tuple #[.agg #[.slice a_ n c, .slice a' n' c'], .bool bz, .int .i64 0] ∧ (∃ f' g', Rc wx (.slice a_ n c) (.slice a' n' c') f' g') ∧ wx.cell? ⟨d, 0, none⟩ = some (.slice a len cap) := hd 4 (some 22) (by kernel_rfl) (by decide) (by decide) (by rfl)
            obtain ⟨z1, z2, z3, z4, z5, z6, bz, eT, _, _⟩ := HT
            simp only [e27, eT]
            obtain ⟨k0, k1_⟩ := Spn.c2 hw.P
            have f0 := frozen_of_row wx b3 0 _ _ hw.P
            have f1 := frozen_of_row wx b3 1 _ _ hw.P
            refine Inv.one (i := 8) (by decide) (by kernel_rfl) (by rfl) (fun K hK => ?_)
            simp only [List.getElem_toArray, List.getElem_cons_zero, List.getElem_cons_succ, Act.put, List.setIfInBounds_toArray, List.set_cons_zero, List.set_cons_succ] at hK ⊢
            go_simp
            refine hK.out _ _ ?_
            clear hK K k0 k1_ f0 f1
            rw [← set_two hw.P]
            refine Inv.done (by kernel_rfl) (NoPanic.normal ?_)
            have O9 := Lib.hid (hw.put LX)
            clear hd hw LX DC e27 eT
            generalize wx.setRow b3 #[.slice y1 m1 d1, .slice y2 m2 d2] = wT at *
            go_wp2_with fail
            go_roundw
            case rel => exact ⟨kc - 1, _, _, _, _, _, _, _, _, by omega, by omega, rfl, O9⟩
            case measure => simp [intOf]; omega
    · obtain rfl : kc = 0 := by omega
      have PP := O.out.P
      obtain ⟨k0, k1⟩ := Spn.c2 O.out.P
      obtain ⟨k2, k3⟩ := Spn.c2 O.out.P2
      have f0 := frozen_of_row wr b2 0 _ _ O.out.P2
      have f1 := frozen_of_row wr b2 1 _ _ O.out.P2
      have RZ := Lib.hid (O.out.R.set O.out.P2 x1 x2 n1 c1 n2 c2)
      have PZ := Lib.hid (setRow_heap wr b2 _ #[.slice x1 n1 c1, .slice x2 n2 c2] _ _ O.out.P2)
      have LZ := Lib.hid (Dice.Left.past O.out.h O.out.L (Mid.below_row (Below.refl _ _) b2 #[.slice x1 n1 c1, .slice x2 n2 c2] O.out.h2))
      rw [set_two O.out.P2] at RZ PZ LZ
      clear O PP
      go_wp2_with fail
      obtain ⟨q0, q1⟩ := Spn.c2 PZ.out
      refine bodyPost_ret (v := .agg #[.slice x1 n1 c1, .slice x2 n2 c2]) (by simp [results, Try.results38, go_sem, q0, q1]) rfl ⟨⟨_, _, rfl, _, _, RZ.out⟩, LZ.out⟩
end Rcv
end Go.Proofs.Ytfmhfhggogjbkaa
